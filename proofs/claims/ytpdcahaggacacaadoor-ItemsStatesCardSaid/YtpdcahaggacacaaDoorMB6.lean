/-
 What the claim leans on, part 6: The program's Cyclic. Conditions: none. The program's Check. Conditions: none. The program's States. Conditions: none. The document's automaton of items, as1 it lies in memory. Conditions: none. The document's States: the items behind a symbol. Conditions: none. The document's States: which state has these items. Conditions: none. The document's States: one symbol of a state. Conditions: none. The document's States: one state. Conditions: none. The document's Close. Conditions: none. The document's circles: rows of rows of one's own, and a name that stays alone. Conditions: none. The document's
-/
import Derived.Test.YtpdcahaggacacaaDoorMB5
import Derived.Test.YtpdcahaggacacaaDoorMB3
import Derived.Test.YtpdcahaggacacaaDoorMB4
import Derived.Test.YtpdcahaggacacaaDoorProg
import Derived.KernelRfl
set_option linter.unusedSimpArgs false
set_option linter.unusedVariables false
namespace Go.Proofs.YtpdcahaggacacaaDoor.K
open Go Ev
set_option maxRecDepth 100000
set_option maxHeartbeats 4000000

def CyPost (g : Gr) (M : MH) (m : MV) (M' : MH) : Prop := Ext M M' ∧ (((formP g).2 ≠ 0 ∧ m = .nils) ∨ ((formP g).2 = 0 ∧ ∃ N, NulVec g N ∧ BRow M' m (cyL g N)))
theorem cyL_take {g : Gr} {N : List Bool} {i : Nat} (hi : i < g.names.toNat) (z : Bool) (hz : z = cyIt (cyB N g.rules) g.names.toNat i i) : ((cyL g N).take i ++ List.replicate (g.names.toNat - i) false).set i z = (cyL g N).take (i + 1) ++ List.replicate (g.names.toNat - (i + 1)) false := by
 have hl := cyL_len g N
 refine List.ext_getElem? fun j => ?_
 rw [List.getElem?_set]
 have e1 : ((cyL g N).take i).length = i := by rw [List.length_take]; omega
 have e2 : ((cyL g N).take (i + 1)).length = i + 1 := by rw [List.length_take]; omega
 by_cases h : i = j
 ·subst h
  rw [if_pos rfl, if_pos (by rw [List.length_append, List.length_replicate]; omega), List.getElem?_append_left (by omega), List.getElem?_take, if_pos (by omega), bAt_at (by omega), cyL_at hi, hz]
 ·rw [if_neg h]
  by_cases h2 : j < i
  ·rw [List.getElem?_append_left (by omega), List.getElem?_append_left (by omega), List.getElem?_take, List.getElem?_take, if_pos h2, if_pos (by omega)]
  ·rw [List.getElem?_append_right (by omega), List.getElem?_append_right (by omega), e1, e2, List.getElem?_replicate, List.getElem?_replicate]
   by_cases h3 : j < g.names.toNat
   ·rw [if_pos (by omega), if_pos (by omega)]
   ·rw [if_neg (by omega), if_neg (by omega)]
theorem pcyclic_any {M : MH} {g : Gr} {vr vf vc vk : MV} {es : List (List MV)} (h : GrAt M vr vf vc vk es g) (hlo : M.lo ≤ M.n) : Cp fns 38 [.ag (gcs g vr vf vc vk)] M (CyPost g M) := by
 have hG : ∀ l, l = gcs g vr vf vc vk → Ev.getN (ofL l 0) 7 0 = some (gcs g vr vf vc vk) := fun l e => by subst e; exact (at_ofL (gcs g vr vf vc vk)).getN
 have hG := hG [MV.i IntKind.i64 g.names, MV.i IntKind.i64 g.kinds, MV.i IntKind.i64 g.start, vr, vf, vc, vk] rfl
 refine Cp_call (fn := F38) (by kernel_rfl) (Nat.le_of_ble_eq_true rfl) ?_
 show Wp fns B38 (T.set q0 (some (.ag (gcs g vr vf vc vk))) T.lf) M _
 unfold B38
 rw [show gcs g vr vf vc vk = [MV.i IntKind.i64 g.names, MV.i IntKind.i64 g.kinds, MV.i IntKind.i64 g.start, vr, vf, vc, vk] from rfl]
 generalize hM1 : M.push (.cs false 7 (ofL [MV.i IntKind.i64 g.names, MV.i IntKind.i64 g.kinds, MV.i IntKind.i64 g.start, vr, vf, vc, vk] 0)) = M1
 have g0 : M1.get M.n = some (.cs false 7 (ofL [MV.i IntKind.i64 g.names, MV.i IntKind.i64 g.kinds, MV.i IntKind.i64 g.start, vr, vf, vc, vk] 0)) := by rw [← hM1]; exact push_new _
 have x1 : Ext M M1 := by rw [← hM1]; exact .push M _
 have n1 : M1.n = M.n + 1 := by rw [← hM1]; rfl
 have l1 := x1.lo
 simp (disch := try exact dzq) only [↓bxD, bA, simprocAttr, hG, hM1, g0]
 refine bindP_call (isForm_any (h.ext x1) (by omega)) ?_
 rintro m M2 ⟨rfl, x2⟩
 have n2 := x2.n
 have l2 := x2.lo
 have g2 := (x2.old _ (by omega)).trans g0
 by_cases hz : (formP g).2 = 0
 ·have dz : decide ((formP g).2 = 0) = true := decide_eq_true hz
  have hok := form_ok hz
  have hn1 := hok.n1
  have hn40 := hok.n2
  obtain ⟨nn, hnn⟩ : ∃ n : Nat, g.names = n := ⟨g.names.toNat, by omega⟩
  simp (disch := try exact dzq) only [↓bxD, bA, simprocAttr, dz]
  show Wp fns K38_4 _ _ _
  unfold K38_4
  simp (disch := try exact dzq) only [↓bxD, bA, simprocAttr, hG, g2]
  refine bindP_call (oneStep_any ((h.ext x1).ext x2) hz (by omega)) ?_
  rintro m M3 ⟨x3, id, F, N, rfl, i1, i2, hw, hFl, hlt, hN, hone⟩
  have n3 := x3.n
  have l3 := x3.lo
  have g3 := (x3.old _ (by omega)).trans g2
  simp (disch := try exact dzq) only [↓bxD, bA, simprocAttr]
  refine bindP_call (anySteps_any (U := cyB N g.rules) hw i2 (by omega) hlt (by omega) (fun i j hi => by rw [hone i j hi, List.take_length])) ?_
  rintro m M4 ⟨rfl, o4, n4, l4, F', hw4, hFl4, hlt4, hrel⟩
  have g4 := (o4 _ (by omega)).trans g3
  have cg0 : cget (ofL [MV.i IntKind.i64 g.names, MV.i IntKind.i64 g.kinds, MV.i IntKind.i64 g.start, vr, vf, vc, vk] 0) 0 = some (.i .i64 (nn : Int)) := by rw [← hnn]; exact (at_ofL _) 0 _ rfl
  simp (disch := try exact dzq) only [↓bxD, bA, simprocAttr, g4, cg0, ev_mks, mks_ok]
  generalize hM5 : M4.push _ = M5
  have b5 : BoolsAt M5 M4.n (List.replicate nn false) := by rw [← hM5]; exact .new nn
  have x5 : Ext M4 M5 := by rw [← hM5]; exact .push M4 _
  have n5 : M5.n = M4.n + 1 := by rw [← hM5]; rfl
  have l5 := x5.lo
  have hw5 := hw4.same (x5.old _ (by omega))
  clear hM5
  have hnl : g.names.toNat = nn := by omega
  have hE : Ext M M4 := ⟨by omega, by omega, fun j hj => by
   rw [o4 j (by omega), x3.old j (by omega), x2.old j (by omega), x1.old j hj]⟩
  simp (disch := try exact dzq) only [↓bxD, bA, simprocAttr, len_slc]
  refine Wp_inv (σ := Nat) (fun i f M' => i ≤ nn ∧ (∀ j, j ≠ M4.n → M'.get j = M5.get j) ∧ M'.n = M5.n ∧ M'.lo = M5.lo ∧ BoolsAt M' M4.n ((cyL g N).take i ++ List.replicate (nn - i) false) ∧ X.ev f (.t q3) = .sl id 0 F.length 0 ∧ X.ev f (.t q4) = .sl M4.n 0 nn 0 ∧ X.ev f (.t q17) = .i .i64 (nn : Int) ∧ X.ev f (.t q18) = .i .i64 (i : Int)) (fun i => nn - i) ?_ 0 ?_
  ·rintro i f M6 ⟨hi, ho, hn', hl', hB, h3, h4, h17, h18⟩
   simp only [q3, q4, q17, q18] at h3 h4 h17 h18
   have hcl := cyL_len g N
   have hll : ((cyL g N).take i ++ List.replicate (nn - i) false).length = nn := by rw [List.length_append, List.length_take, List.length_replicate]; omega
   unfold L38_2
   by_cases hi' : i < nn
   ·have d1 : decide ((i : Int) < (nn : Int)) = true := decide_eq_true (by omega)
    have hw6 := hw5.same (ho _ (by omega))
    obtain ⟨t, ht1, ht2, ht3, ht4⟩ := hw6.read
    have hCi := ht2 i (by omega)
    have hHi := ht3 i (by omega)
    have hFi := fAt_lt hlt4 i
    obtain ⟨u, hu1, hu2, hu3, hu4⟩ := hB.read
    have hH4 := hu3 i (by omega)
    simp (disch := try exact dzq) only [↓bxD, bA, simprocAttr, h17, h18, d1]
    show Wp fns K38_1 _ _ _
    unfold K38_1
    simp (disch := try exact dzq) only [↓bxD, bA, simprocAttr, h3, h4, h18, ix_slc, ht1, hCi]
    refine bindP_call (has_any hFi (k := i) (by omega)) ?_
    rintro m M7 ⟨rfl, rfl⟩
    have hrv : (fAt F' i).testBit i = cyIt (cyB N g.rules) g.names.toNat i i := by rw [hrel i i (by omega), hFl]
    have hsA := hu4 i ((fAt F' i).testBit i) (by omega)
    simp (disch := try exact dzq) only [↓bxD, bA, simprocAttr, ix_slc, hu1]
    show Wp fns K38_0 _ _ _
    unfold K38_0
    simp (disch := try exact dzq) only [↓bxD, bA, simprocAttr, h3, h4, h17, h18]
    refine ⟨i + 1, by omega, by omega, fun j hj => by rw [set_ne hj]; exact ho j hj, hn', hl', ⟨_, set_same _ _, ?_⟩, rfl⟩
    rw [← hnl, ← cyL_take (g := g) (N := N) (i := i) (by omega) _ hrv, hnl]
    exact hsA
   ·have d1 : decide ((i : Int) < (nn : Int)) = false := decide_eq_false (by omega)
    obtain rfl : i = nn := by omega
    simp (disch := try exact dzq) only [↓bxD, bA, simprocAttr, h17, h18, d1]
    show Wp fns K38_3 _ _ _
    unfold K38_3
    simp (disch := try exact dzq) only [↓bxD, bA, simprocAttr, h4]
    rw [Nat.sub_self, List.replicate_zero, List.append_nil, List.take_of_length_le (by omega)] at hB
    refine ⟨⟨by omega, by omega, fun j hj => by rw [ho j (by omega), x5.old j (by omega), hE.old j hj]⟩, .inr ⟨hz, N, hN, ?_⟩⟩
    have := hB.row (by omega : M4.n < M6.n)
    rw [cyL_len, hnl] at this
    exact this
  ·exact ⟨Nat.zero_le _, fun _ _ => rfl, rfl, rfl, by rw [List.take_zero, List.nil_append, Nat.sub_zero]; exact b5, by simp only [bA, reduceCtorEq], by simp only [bA, reduceCtorEq], by simp only [bA, reduceCtorEq] <;> rfl, by simp only [bA, reduceCtorEq] <;> rfl⟩
 ·have dz : decide ((formP g).2 = 0) = false := decide_eq_false hz
  simp (disch := try exact dzq) only [↓bxD, bA, simprocAttr, dz]
  exact ⟨x1.trans x2, .inl ⟨hz, rfl⟩⟩
def ChIs (g : Gr) (z : Int × Int) : Prop := ((formP g).2 ≠ 0 ∧ z = formP g) ∨ ((formP g).2 = 0 ∧ ∃ R S N, RchVec g R ∧ ShVec g S ∧ NulVec g N ∧ z = chkV g.names.toNat R (S.map fun z => decide (0 ≤ z)) (cyL g N))
theorem chis_ext {g : Gr} {a b : Int × Int} (ha : ChIs g a) (hb : ChIs g b) : a = b := by
 rcases ha with ⟨h, rfl⟩ | ⟨h, R, S, N, h1, h2, h3, rfl⟩ <;> rcases hb with ⟨k, rfl⟩ | ⟨k, R', S', N', k1, k2, k3, rfl⟩
 ·rfl
 ·exact absurd k h
 ·exact absurd h k
 ·rw [vec_ext (h1.1.trans k1.1.symm) h1.2 k1.2, sh_ext h2 k2, nul_ext h3 k3]
theorem index_true {M : MH} {v : MV} {l : List Bool} (h : BRow M v l) (hl : l.length ≤ 1000) : Cp fns 37 [v, .b true] M fun m M' => m = .i .i64 (match firstP (bAt l) l.length 0 with
  | some i => (i : Int)
  | none => -1) ∧ M' = M := by
 obtain ⟨v1, v2⟩ := h.sl
 refine Cp_call (fn := F37) (by kernel_rfl) (Nat.le_of_ble_eq_true rfl) ?_
 show Wp fns B37 (T.set q1 (some (.b true)) (T.set q0 (some v) T.lf)) M _
 unfold B37
 simp (disch := try exact dzq) only [↓bxD, bA, simprocAttr, v2]
 refine Wp_inv (σ := Nat) (fun i f M' => M' = M ∧ i ≤ l.length ∧ (∀ k, k < i → bAt l k = false) ∧ X.ev f (.t q0) = v ∧ X.ev f (.t q1) = .b true ∧ X.ev f (.t q6) = v ∧ X.ev f (.t q7) = .i .i64 (l.length : Int) ∧ X.ev f (.t q8) = .i .i64 (i : Int)) (fun i => l.length - i) ?_ 0 ?_
 ·rintro i f M' ⟨rfl, hi, hk, h0, h1, h6, h7, h8⟩
  simp only [q0, q1, q6, q7, q8] at h0 h1 h6 h7 h8
  unfold L37_2
  by_cases hi' : i < l.length
  ·have d1 : decide ((i : Int) < (l.length : Int)) = true := decide_eq_true (by omega)
   obtain ⟨ro, s, t, hg, hid, hC⟩ := h.read hi'
   cases hb : bAt l i with
   | true =>
    rw [hb] at hC
    have e := firstP_is (p := bAt l) (n := l.length) (i := 0) (k := i) (Nat.zero_le _) (by omega) hb fun m _ hm => hk m hm
    rw [e]
    simp (disch := try exact dzq) only [↓bxD, bA, simprocAttr, h7, h8, d1]
    show Wp fns K37_1 _ _ _
    unfold K37_1
    simp (disch := try exact dzq) only [↓bxD, bA, simprocAttr, h0, h1, h8, hg, hC]
   | false =>
    rw [hb] at hC
    have tf : (true == false) = false := rfl
    simp (disch := try exact dzq) only [↓bxD, bA, simprocAttr, h7, h8, d1]
    show Wp fns K37_1 _ _ _
    unfold K37_1
    simp (disch := try exact dzq) only [↓bxD, bA, simprocAttr, h0, h1, h8, hg, hC, tf]
    show Wp fns K37_0 _ _ _
    unfold K37_0
    simp (disch := try exact dzq) only [↓bxD, bA, simprocAttr, h0, h1, h6, h7, h8]
    refine ⟨i + 1, by omega, by omega, fun k hk' => ?_, rfl⟩
    by_cases e : k = i
    ·subst e; exact hb
    ·exact hk k (by omega)
  ·have d1 : decide ((i : Int) < (l.length : Int)) = false := decide_eq_false (by omega)
   obtain rfl : i = l.length := by omega
   rw [firstP_no (p := bAt l) (n := l.length) (i := 0) fun m _ hm => hk m (by omega)]
   simp (disch := try exact dzq) only [↓bxD, bA, simprocAttr, h7, h8, d1]
   show Wp fns K37_3 _ _ _
   unfold K37_3
   simp (disch := try exact dzq) only [↓bxD, bA, reduceCtorEq]
   rfl
 ·exact ⟨rfl, Nat.zero_le _, fun k hk => absurd hk (Nat.not_lt_zero k), by simp only [bA, reduceCtorEq], by simp only [bA, reduceCtorEq], by simp only [bA, reduceCtorEq], by simp only [bA, reduceCtorEq] <;> rfl, by simp only [bA, reduceCtorEq] <;> rfl⟩
theorem chk_useless {g : Gr} {R : List Bool} {S : List Int} {N : List Bool} {i : Nat} (hz : (formP g).2 = 0) (hR : RchVec g R) (hS : ShVec g S) (hN : NulVec g N) (e : firstP (fun i => !(bAt R i) || !(bAt (S.map fun z => decide (0 ≤ z)) i)) g.names.toNat 0 = some i) : ChIs g ((i : Int), 7) := by
 refine .inr ⟨hz, R, S, N, hR, hS, hN, ?_⟩
 unfold chkV
 rw [e]
theorem chk_cycle {g : Gr} {R : List Bool} {S : List Int} {N : List Bool} {i : Nat} (hz : (formP g).2 = 0) (hR : RchVec g R) (hS : ShVec g S) (hN : NulVec g N) (e : firstP (fun i => !(bAt R i) || !(bAt (S.map fun z => decide (0 ≤ z)) i)) g.names.toNat 0 = none) (e2 : firstP (bAt (cyL g N)) g.names.toNat 0 = some i) : ChIs g ((i : Int), 8) := by
 refine .inr ⟨hz, R, S, N, hR, hS, hN, ?_⟩
 unfold chkV
 rw [e, e2]
theorem chk_fine {g : Gr} {R : List Bool} {S : List Int} {N : List Bool} (hz : (formP g).2 = 0) (hR : RchVec g R) (hS : ShVec g S) (hN : NulVec g N) (e : firstP (fun i => !(bAt R i) || !(bAt (S.map fun z => decide (0 ≤ z)) i)) g.names.toNat 0 = none) (e2 : firstP (bAt (cyL g N)) g.names.toNat 0 = none) : ChIs g (-1, 0) := by
 refine .inr ⟨hz, R, S, N, hR, hS, hN, ?_⟩
 unfold chkV
 rw [e, e2]
theorem pcheck_any {M : MH} {g : Gr} {vr vf vc vk : MV} {es : List (List MV)} (h : GrAt M vr vf vc vk es g) (hlo : M.lo ≤ M.n) : Cp fns 24 [.ag (gcs g vr vf vc vk)] M fun m M' => Ext M M' ∧ ∃ z : Int × Int, ChIs g z ∧ m = .tp [.i .i64 z.1, .i .i64 z.2] := by
 have hG : ∀ l, l = gcs g vr vf vc vk → Ev.getN (ofL l 0) 7 0 = some (gcs g vr vf vc vk) := fun l e => by subst e; exact (at_ofL (gcs g vr vf vc vk)).getN
 have hG := hG [MV.i IntKind.i64 g.names, MV.i IntKind.i64 g.kinds, MV.i IntKind.i64 g.start, vr, vf, vc, vk] rfl
 refine Cp_call (fn := F24) (by kernel_rfl) (Nat.le_of_ble_eq_true rfl) ?_
 show Wp fns B24 (T.set q0 (some (.ag (gcs g vr vf vc vk))) T.lf) M _
 unfold B24
 rw [show gcs g vr vf vc vk = [MV.i IntKind.i64 g.names, MV.i IntKind.i64 g.kinds, MV.i IntKind.i64 g.start, vr, vf, vc, vk] from rfl]
 generalize hM1 : M.push (.cs false 7 (ofL [MV.i IntKind.i64 g.names, MV.i IntKind.i64 g.kinds, MV.i IntKind.i64 g.start, vr, vf, vc, vk] 0)) = M1
 have g0 : M1.get M.n = some (.cs false 7 (ofL [MV.i IntKind.i64 g.names, MV.i IntKind.i64 g.kinds, MV.i IntKind.i64 g.start, vr, vf, vc, vk] 0)) := by rw [← hM1]; exact push_new _
 have x1 : Ext M M1 := by rw [← hM1]; exact .push M _
 have n1 : M1.n = M.n + 1 := by rw [← hM1]; rfl
 have l1 := x1.lo
 simp (disch := try exact dzq) only [↓bxD, bA, simprocAttr, hG, hM1, g0]
 refine bindP_call (prog_form (h.ext x1) (by omega)) ?_
 rintro m M2 ⟨rfl, x2⟩
 have n2 := x2.n
 have l2 := x2.lo
 have g2 := (x2.old _ (by omega)).trans g0
 have x02 := x1.trans x2
 by_cases hz : (formP g).2 = 0
 ·have dz : decide ((formP g).2 ≠ 0) = false := decide_eq_false (by rw [hz]; simp)
  have hok := form_ok hz
  have hn1 := hok.n1
  have hn40 := hok.n2
  obtain ⟨nn, hnn⟩ : ∃ n : Nat, g.names = n := ⟨g.names.toNat, by omega⟩
  have hnl : g.names.toNat = nn := by omega
  simp (disch := try exact dzq) only [↓bxD, bA, simprocAttr, dz]
  show Wp fns K24_6 _ _ _
  unfold K24_6
  simp (disch := try exact dzq) only [↓bxD, bA, simprocAttr]
  refine Wp_dreg_of (by omega) ?_
  simp (disch := try exact dzq) only [↓bxD, bA, simprocAttr, hG, g2]
  have hgr2 := h.ext x02
  refine bindP_call (preachable_any (gr_lift hgr2) (Nat.le_refl _)) ?_
  rintro m M3 ⟨x3, ⟨hne, _⟩ | ⟨_, R, hR, hRr⟩⟩
  ·exact absurd hz hne
  have x23 := ext_dl x3
  have n3 := x23.n
  have l3 := x23.lo
  have g3 := (x23.old M.n (by omega)).trans g2
  have g3' := g3
  have hgr3 := hgr2.ext x23
  have hRr3 : BRow (M3.down M2.lo) m R := hRr
  rw [down_get] at g3
  simp (disch := try exact dzq) only [↓bxD, bA, simprocAttr, hG, g2]
  generalize M3.down M2.lo = N3 at *
  refine bindP_call (pprod_any hgr3 (by omega)) ?_
  rintro m4 M4 ⟨x4, ⟨hne, _⟩ | ⟨_, S, hS, hSr⟩⟩
  ·exact absurd hz hne
  have n4 := x4.n
  have l4 := x4.lo
  have g4 := (x4.old M.n (by omega)).trans g3'
  have hgr4 := hgr3.ext x4
  have hRr4 := hRr3.ext x4
  have cg0 : cget (ofL [MV.i IntKind.i64 g.names, MV.i IntKind.i64 g.kinds, MV.i IntKind.i64 g.start, vr, vf, vc, vk] 0) 0 = some (.i .i64 (nn : Int)) := by rw [← hnn]; exact (at_ofL _) 0 _ rfl
  have x04 := (x02.trans x23).trans x4
  obtain ⟨r1, r2⟩ := hRr4.sl
  obtain ⟨s1, s2⟩ := hSr.sl
  have hRl : R.length = nn := by rw [hR.1]; omega
  have hSl : (S.map fun z => decide (0 ≤ z)).length = nn := by rw [List.length_map, (hS.inn hok).len]; omega
  simp (disch := try exact dzq) only [↓bxD, bA, simprocAttr]
  show Wp fns K24_5 _ _ _
  unfold K24_5
  simp (disch := try exact dzq) only [↓bxD, bA, simprocAttr, g4, cg0]
  obtain ⟨N, hN⟩ : ∃ N, NulVec g N := by
   obtain ⟨m9, M9, _, _, ⟨hne, _⟩ | ⟨_, N, hN, _⟩⟩ := pnull_any h hlo
   ·exact absurd hz hne
   ·exact ⟨N, hN⟩
  refine Wp_inv (σ := Nat) (fun i f M' => M' = M4 ∧ i ≤ nn ∧ (∀ k, k < i → (!(bAt R k) || !(bAt (S.map fun z => decide (0 ≤ z)) k)) = false) ∧ X.ev f (.t q1) = .p M.n 0 ∧ X.ev f (.t q6) = m ∧ X.ev f (.t q7) = m4 ∧ X.ev f (.t q24) = .i .i64 (nn : Int) ∧ X.ev f (.t q25) = .i .i64 (i : Int)) (fun i => nn - i) ?_ 0 ?_
  ·rintro i f M' ⟨rfl, hi, hk, h1, h6, h7, h24, h25⟩
   simp only [q1, q6, q7, q24, q25] at h1 h6 h7 h24 h25
   unfold L24_2
   by_cases hi' : i < nn
   ·have d1 : decide ((i : Int) < (nn : Int)) = true := decide_eq_true (by omega)
    obtain ⟨ro, sz, t, hg, hid, hC⟩ := hRr4.read (i := i) (by omega)
    obtain ⟨ro2, sz2, t2, hg2, hid2, hC2⟩ := hSr.read (i := i) (by omega)
    have use : (!(bAt R i) || !(bAt (S.map fun z => decide (0 ≤ z)) i)) = true → ChIs g ((i : Int), 7) := fun hb => chk_useless hz hR hS hN (firstP_is (Nat.zero_le _) (by omega) hb fun m _ hm => hk m hm)
    cases hb : bAt R i with
    | false =>
     rw [hb] at hC
     have hu := use (by rw [hb]; rfl)
     simp (disch := try exact dzq) only [↓bxD, bA, simprocAttr, h24, h25, d1]
     show Wp fns K24_1 _ _ _
     unfold K24_1
     simp (disch := try exact dzq) only [↓bxD, bA, simprocAttr, h6, h25, hg, hC]
     exact ⟨x04, _, hu, rfl⟩
    | true =>
     rw [hb] at hC
     cases hb2 : bAt (S.map fun z => decide (0 ≤ z)) i with
     | false =>
      rw [hb2] at hC2
      have hu := use (by rw [hb2]; simp)
      simp (disch := try exact dzq) only [↓bxD, bA, simprocAttr, h24, h25, d1]
      show Wp fns K24_1 _ _ _
      unfold K24_1
      simp (disch := try exact dzq) only [↓bxD, bA, simprocAttr, h6, h7, h25, hg, hC, hg2, hC2]
      exact ⟨x04, _, hu, rfl⟩
     | true =>
      rw [hb2] at hC2
      simp (disch := try exact dzq) only [↓bxD, bA, simprocAttr, h24, h25, d1]
      show Wp fns K24_1 _ _ _
      unfold K24_1
      simp (disch := try exact dzq) only [↓bxD, bA, simprocAttr, h6, h7, h25, hg, hC, hg2, hC2]
      show Wp fns K24_0 _ _ _
      unfold K24_0
      simp (disch := try exact dzq) only [↓bxD, bA, simprocAttr, h1, h6, h7, h24, h25]
      refine ⟨i + 1, by omega, by omega, fun k hk' => ?_, rfl⟩
      by_cases e : k = i
      ·subst e; rw [hb, hb2]; rfl
      ·exact hk k (by omega)
   ·have d1 : decide ((i : Int) < (nn : Int)) = false := decide_eq_false (by omega)
    obtain rfl : i = nn := by omega
    have hnone : firstP (fun i => !(bAt R i) || !(bAt (S.map fun z => decide (0 ≤ z)) i)) g.names.toNat 0 = none := firstP_no fun m _ hm => hk m (by omega)
    simp (disch := try exact dzq) only [↓bxD, bA, simprocAttr, h24, h25, d1]
    show Wp fns K24_4 _ _ _
    unfold K24_4
    simp (disch := try exact dzq) only [↓bxD, bA, simprocAttr, h1, g4, hG]
    refine bindP_call (pcyclic_any hgr4 (by omega)) ?_
    rintro m5 M5 ⟨x5, ⟨hne, _⟩ | ⟨_, N', hN', hNr⟩⟩
    ·exact absurd hz hne
    obtain rfl := nul_ext hN' hN
    simp (disch := try exact dzq) only [↓bxD, bA, simprocAttr]
    refine bindP_call (index_true hNr (by rw [cyL_len]; omega)) ?_
    rintro m6 M6 ⟨rfl, rfl⟩
    rw [cyL_len]
    cases e2 : firstP (bAt (cyL g N')) g.names.toNat 0 with
    | some k =>
     have d3 : decide (0 ≤ (k : Int)) = true := decide_eq_true (by omega)
     have hu := chk_cycle hz hR hS hN hnone e2
     simp (disch := try exact dzq) only [↓bxD, bA, simprocAttr, d3]
     exact ⟨x04.trans x5, _, hu, rfl⟩
    | none =>
     have hu := chk_fine hz hR hS hN hnone e2
     have d3 : decide ((0 : Int) ≤ -1) = false := rfl
     simp (disch := try exact dzq) only [↓bxD, bA, reduceCtorEq, d3]
     show Wp fns K24_3 _ _ _
     unfold K24_3
     simp (disch := try exact dzq) only [↓bxD, bA, simprocAttr]
     exact ⟨x04.trans x5, _, hu, rfl⟩
  ·exact ⟨rfl, Nat.zero_le _, fun k hk => absurd hk (Nat.not_lt_zero k), by simp only [bA, reduceCtorEq], by simp only [bA, reduceCtorEq], by simp only [bA, reduceCtorEq], by simp only [bA, reduceCtorEq] <;> rfl, by simp only [bA, reduceCtorEq] <;> rfl⟩
 ·have dz : decide ((formP g).2 ≠ 0) = true := decide_eq_true hz
  simp (disch := try exact dzq) only [↓bxD, bA, simprocAttr, dz]
  exact ⟨x02, formP g, .inl ⟨hz, rfl⟩, rfl⟩
theorem stN_items {g : Gr} (hg : GrOk g) : ∀ n, ∀ N ∈ (stN g n).2, ∀ b, N.testBit b = true → IsN g b
 | 0, N, hN, b, hb => by
  rw [List.mem_singleton.1 hN] at hb
  have hb0 : b = 0 := by
   refine Nat.eq_zero_of_not_pos fun h => ?_
   rw [Nat.testBit_lt_two_pow (Nat.lt_of_lt_of_le (show 1 < 2 ^ 1 by decide) (Nat.pow_le_pow_right (by omega) h))] at hb
   cases hb
  subst hb0
  exact ⟨_, rfl, Nat.zero_le _⟩
 | n + 1, N, hN, b, hb => by
  have ih := stN_items hg n
  cases hk : (stN g n).2[n]? with
  | none => rw [stN_stop hk] at hN; exact ih N hN b hb
  | some k =>
   rw [stN_succ hk] at hN
   have key : ∀ (c : List Nat) (l : List Int) (a : Acc), (∀ N ∈ a.ks, ∀ b, N.testBit b = true → IsN g b) → ∀ N ∈ (l.foldl (stepS g c) a).ks, ∀ b, N.testBit b = true → IsN g b := fun c l => by
    induction l with
    | nil => exact fun a h => h
    | cons s l ihl =>
     intro a h
     refine ihl _ fun N hN b hb => ?_
     by_cases e : nextN g c s = 0
     ·rw [step_zero e] at hN; exact h N hN b hb
     ·rw [step_one e] at hN
      have hN : N ∈ (if nextN g c s ∈ a.ks then a.ks else a.ks ++ [nextN g c s]) := hN
      split at hN
      ·exact h N hN b hb
      ·rcases List.mem_append.1 hN with h' | h'
       ·exact h N h' b hb
       ·rw [List.mem_singleton.1 h'] at hb
        unfold nextN at hb
        rw [bs_bit, decide_eq_true_iff] at hb
        exact next_is hg hb
   exact key _ _ ⟨[], [], (stN g n).2⟩ ih N hN b hb
def StRows (M : MH) (v : MV) (ks : List Nat) (done : List StR) : Prop := ∃ els, RowAt M 3 v els ∧ els.length = ks.length ∧ done.length = ks.length ∧ ∀ (i : Nat) e N d, els[i]? = some e → ks[i]? = some N → done[i]? = some d → ∃ vi v1 v2, e = [vi, v1, v2] ∧ RowAt M 2 vi (ivs (bitsOf N 576)) ∧ IntRow M v1 d.1 ∧ IntRow M v2 (d.2.map Int.ofNat)
def StaIs (g : Gr) (r : Int × Option (List StR × List Nat)) : Prop := ∃ z, ChIs g z ∧ ((z.2 ≠ 0 ∧ r = (z.2, none)) ∨ (z.2 = 0 ∧ ∃ x, StRes g x ∧ r = (if x.isSome then 0 else 3, x)))
theorem staIs_ext {g : Gr} {a b : Int × Option (List StR × List Nat)} (ha : StaIs g a) (hb : StaIs g b) : a = b := by
 obtain ⟨z, hz, h⟩ := ha
 obtain ⟨z', hz', h'⟩ := hb
 obtain rfl := chis_ext hz hz'
 rcases h with ⟨h, rfl⟩ | ⟨h, x, hx, rfl⟩
 ·rcases h' with ⟨_, rfl⟩ | ⟨h', _⟩
  ·rfl
  ·exact absurd h' h
 ·rcases h' with ⟨h', _⟩ | ⟨_, x', hx', rfl⟩
  ·exact absurd h h'
  ·rw [hx.ext hx']
def StaRows (M : MH) (m : MV) (r : Int × Option (List StR × List Nat)) : Prop := match r.2 with
 | none => m = .tp [.nils, .i .i64 r.1]
 | some x => ∃ v, m = .tp [v, .i .i64 r.1] ∧ StRows M v x.2 x.1
theorem pstates_any {M : MH} {g : Gr} {vr vf vc vk : MV} {es : List (List MV)} (h : GrAt M vr vf vc vk es g) (hlo : M.lo ≤ M.n) : Cp fns 11 [.ag (gcs g vr vf vc vk)] M fun m M' => Ext M M' ∧ ∃ r, StaIs g r ∧ StaRows M' m r := by
 refine Cp_call (fn := F11) (by kernel_rfl) (Nat.le_of_ble_eq_true rfl) ?_
 show Wp fns B11 (T.set q0 (some (.ag (gcs g vr vf vc vk))) T.lf) M _
 unfold B11
 simp (disch := try exact dz) only [↓bxD, bA, simprocAttr, g_len]
 generalize hM1 : M.push _ = M1
 have x1 : Ext M M1 := by rw [← hM1]; exact .push M _
 have g1 : M1.get M.n = some (.cs false 7 (ofL (gcs g vr vf vc vk) 0)) := by rw [← hM1]; exact push_new _
 have n1 : M1.n = M.n + 1 := by rw [← hM1]; rfl
 have l1 := x1.lo
 clear hM1
 simp (disch := try exact dz) only [↓bxD, bA, simprocAttr, g_N]
 refine bindP_call (pcheck_any (h.ext x1) (by omega)) ?_
 rintro m M2 ⟨x2, z, hz, rfl⟩
 have n2 := x2.n
 have l2 := x2.lo
 have g2 := (x2.old _ (by omega)).trans g1
 have x12 := x1.trans x2
 by_cases hz0 : z.2 = 0
 ·have d0 : decide (z.2 ≠ 0) = false := decide_eq_false (fun e => e hz0)
  have hform : (formP g).2 = 0 := by
   rcases hz with ⟨h1, h2⟩ | ⟨h1, _⟩
   ·exact absurd (by rw [h2] at hz0; exact hz0) h1
   ·exact h1
  have hok := form_ok hform
  have h60 := hok.rl
  simp (disch := try exact dz) only [↓bxD, bA, simprocAttr, d0]
  have ff0 : fillM [(0, 1, MV.i .i64 (Int.negSucc 0))] [.i .i64 0, .i .i64 0] = some (itc 0) := rfl
  show Wp fns K11_4 _ _ _
  unfold K11_4
  simp (disch := try exact dz) only [↓bxD, bA, reduceCtorEq, ff0]
  generalize hM3 : M2.push _ = M3
  have x3 : Ext M2 M3 := by rw [← hM3]; exact .push M2 _
  have g3 : M3.get M2.n = some (.cs false 9 (ofL (st9 0) 0)) := by rw [← hM3]; exact push_new _
  have n3 : M3.n = M2.n + 1 := by rw [← hM3]; rfl
  have l3 := x3.lo
  clear hM3
  refine bindP_call (add_any (N := 0) (n := 0) g3 (at_ofL _) (by omega) (by omega) (by omega) (by omega)) ?_
  rintro m M4 ⟨⟨c4, e1, e2, _⟩, x4⟩
  rw [show (0 : Nat) ||| 2 ^ 0 = 1 from rfl] at e2
  have n4 := x4.n
  have l4 := x4.lo
  have x04 : Ext M M4 := ⟨by omega, by omega, fun j hj => (x4.old j (by omega) (by omega)).trans ((x12.trans x3).old j hj)⟩
  have g4 := (x4.old M.n (by omega) (by omega)).trans ((x3.old _ (by omega)).trans g2)
  have hG9 : Ev.getN c4 9 0 = some (st9 1) := e2.getN
  obtain ⟨u1, _⟩ := h.rules.row.sl
  obtain ⟨u2, _⟩ := h.forbid.sl
  obtain ⟨u3, _⟩ := h.rc.sl
  obtain ⟨u4, _⟩ := h.kc.sl
  have ff1 : fillM [(0, 7, MV.ag (gcs g vr vf vc vk)), (9, 1, MV.m M4.n)] [.i .i64 0, .i .i64 0, .i .i64 0, .nils, .nils, .nils, .nils, .nils, .nils, .nilm] = some (Acs (gcs g vr vf vc vk) .nils .nils M4.n) := rfl
  have hst : stOk 10 (.ag (Acs (gcs g vr vf vc vk) .nils .nils M4.n)) = true := by
   unfold stOk gcs
   simp [isSl_one u1, isSl_one u2, isSl_one u3, isSl_one u4, isU, MV.cells, all_cons, all_nil]
   exact ⟨rfl, rfl, rfl, rfl, rfl⟩
  have hcA : MV.cells (.ag (Acs (gcs g vr vf vc vk) .nils .nils M4.n)) = Acs (gcs g vr vf vc vk) .nils .nils M4.n := rfl
  have hP : ∀ a b, ((M4.push a).push b).get (M4.n + 1) = some b := fun a b => push_new (M := M4.push a) b
  simp (disch := try exact dz) only [↓bxD, bA, simprocAttr, g4, g_N, ff1, hcA, e1, hG9, hP]
  generalize hM5 : ((M4.push (MO.mp [] 0)).push _).set (M4.n + 1) _ = M5
  have x5 : Ext M4 M5 := by rw [← hM5]; exact ((Ext.push M4 _).trans (.push _ _)).set _ (by omega)
  have n5 : M5.n = M4.n + 2 := by rw [← hM5]; rfl
  have g5m : M5.get M4.n = some (.mp (entsA [] 0) 0) := by rw [← hM5, set_ne (by omega), push_old (by show M4.n < M4.n + 1; omega)]; exact push_new _
  have g5p : ∃ t, M5.get (M4.n + 1) = some (.cs false 10 t) ∧ At t 0 (Acs (gcs g vr vf vc vk) .nils .nils M4.n) := ⟨_, by rw [← hM5, set_same], at_setN _ _ _⟩
  have l5 := x5.lo
  clear hM5
  obtain ⟨t5, g51, g52⟩ := g5p
  have hA5 : ASt M4.n M4.n M5 (M4.n + 1) M4.n (gcs g vr vf vc vk) .nils .nils [] [] [] := by
   refine ⟨⟨⟨t5, g51, g52⟩, ⟨by omega, by omega⟩, fun i sz es' hi => ?_, fun i j x y v w id hij hi hj hv hw hid => ?_⟩, rfl, g5m, ⟨Nat.le_refl _, by omega⟩, rfl, fun N hN => (by simp at hN), Nat.le_refl _, fun i e N he => (by simp at he)⟩
   ·match i, hi with
    | 7, hi => injection hi with hi; injection hi with hi; injection hi with h1 h2; subst h1 h2; exact ⟨.nils, rfl, OwnRow.nil _ _ _, by intro e; cases e⟩
    | 8, hi => injection hi with hi; injection hi with hi; injection hi with h1 h2; subst h1 h2; exact ⟨.nils, rfl, OwnRow.nil _ _ _, by intro e; cases e⟩
    | 0, hi => cases hi
    | 1, hi => cases hi
    | 2, hi => cases hi
    | 3, hi => cases hi
    | 4, hi => cases hi
    | 5, hi => cases hi
    | 6, hi => cases hi
    | 9, hi => cases hi
    | n + 10, hi => simp at hi
   ·match i, hi with
    | 7, hi => injection hv with hv; rw [← hv] at hid; cases hid
    | 8, hi => injection hv with hv; rw [← hv] at hid; cases hid
    | 0, hi => cases hi
    | 1, hi => cases hi
    | 2, hi => cases hi
    | 3, hi => cases hi
    | 4, hi => cases hi
    | 5, hi => cases hi
    | 6, hi => cases hi
    | 9, hi => cases hi
    | n + 10, hi => simp at hi
  have b1 : Bits 1 := fun i hi => by
   refine Nat.lt_of_not_le fun h => ?_
   rw [Nat.testBit_lt_two_pow (Nat.lt_of_lt_of_le (show 1 < 2 ^ 1 by decide) (Nat.pow_le_pow_right (by omega) (show 1 ≤ i by omega)))] at hi
   cases hi
  refine bindP_call (numb_any hA5 b1 (h.tb.ext (x04.trans x5)) (by omega) (by omega) (by omega) (by show 0 ≤ 5000; omega)) ?_
  rintro m6 M6 ⟨rfl, n6, l6, vk6, vs6, els6, hA6, o6, _, _⟩
  have x46 : Ext M4 M6 := ⟨by omega, by omega, fun j hj => (o6 j (by omega) fun e => by have := (hA5.af_lt e).1; omega).trans (x5.old j hj)⟩
  rw [if_neg (by simp)] at hA6
  simp (disch := try exact dz) only [↓bxD, bA, simprocAttr]
  refine Wp_inv (σ := Nat) (fun n f M' => X.ev f (.t q7) = .p (M4.n + 1) 0 ∧ X.ev f (.t q8) = .i .i64 (n : Int) ∧ n ≤ (stN g n).2.length ∧ (stN g n).2.length ≤ 2000 ∧ Ext M4 M' ∧ ∃ hi vk' vs' els', hi ≤ M'.n ∧ ASt M4.n hi M' (M4.n + 1) M4.n (gcs g vr vf vc vk) vk' vs' (stN g n).2 els' (stN g n).1) (fun n => 2001 - n) ?_ 0 ?_
  ·rintro n f M7 ⟨k7, k8, hn1, hn2, x7, hi, vk7, vs7, els7, hhi, hA⟩
   simp only [q7, q8] at k7 k8
   have n7 := x7.n
   have l7 := x7.lo
   have hsl := stN_len g n hn1
   obtain ⟨t7, p1, p2⟩ := hA.p10
   have c7 : cget t7 7 = some vk7 := by have := p2 _ _ (acs_at (vk := vk7) (vs := vs7) (mid := M4.n) (k := 0) hA.gl7 rfl); simpa using this
   have c8 : cget t7 8 = some vs7 := by have := p2 _ _ (acs_at (vk := vk7) (vs := vs7) (mid := M4.n) (k := 1) hA.gl7 rfl); simpa using this
   obtain ⟨s1, s2⟩ := hA.vk_own.1.row.sl
   rw [sts_len] at s2
   unfold L11_2
   by_cases hlt : n < (stN g n).2.length
   ·have d1 : decide ((n : Int) < ((stN g n).2.length : Int)) = true := decide_eq_true (by omega)
    obtain ⟨N, hN⟩ : ∃ N, (stN g n).2[n]? = some N := ⟨_, List.getElem?_eq_getElem hlt⟩
    have wi : wrapF .i64 ((n : Int) + 1) = ((n + 1 : Nat) : Int) := by rw [wrap_in (by omega) (by omega)]; omega
    simp (disch := try exact dz) only [↓bxD, bA, simprocAttr, k7, k8, p1, c7, s2, d1]
    show Wp fns K11_1 _ _ _
    unfold K11_1
    simp (disch := try exact dz) only [↓bxD, bA, simprocAttr, k7, k8]
    refine bindP_call (lead_any hA (h.ext (x04.trans x7)) hform hhi (by omega) (by omega) (by omega) hn2 hsl hN (stN_items hok n N (List.mem_of_getElem? hN))) ?_
    rintro m8 M8 ⟨n8, l8, vk8, vs8, els8, hA8, o8, _, _⟩
    have x48 : Ext M4 M8 := ⟨by omega, by omega, fun j hj => (o8 j (by omega) fun e => by have := (hA.af_lt e).1; omega).trans (x7.old j hj)⟩
    have hsu := stN_succ hN
    generalize leadP g (bitsOf (clsN g fun i => N.testBit i = true) 576) (stN g n).2 = a at hA8 hsu
    have e1 : (stN g (n + 1)).2 = a.ks := by rw [hsu]
    have e2 : (stN g (n + 1)).1 = (stN g n).1 ++ [(a.syms, a.to)] := by rw [hsu]
    rw [← e1, ← e2] at hA8
    have hpre := (stN_pre g n).length_le
    obtain ⟨t8, p3, p4⟩ := hA8.p10
    have c78 : cget t8 7 = some vk8 := by have := p4 _ _ (acs_at (vk := vk8) (vs := vs8) (mid := M4.n) (k := 0) hA.gl7 rfl); simpa using this
    obtain ⟨s3, s4⟩ := hA8.vk_own.1.row.sl
    rw [sts_len] at s4
    by_cases hbig : 2000 < (stN g (n + 1)).2.length
    ·have d2 : decide ((2000 : Int) < ((stN g (n + 1)).2.length : Int)) = true := decide_eq_true (by omega)
     simp (disch := try exact dz) only [↓bxD, bA, simprocAttr, k7, p3, c78, s4, d2]
     exact ⟨x04.trans x48, (3, none), ⟨z, hz, .inr ⟨hz0, none, .long hbig, rfl⟩⟩, rfl⟩
    ·have d2 : decide ((2000 : Int) < ((stN g (n + 1)).2.length : Int)) = false := decide_eq_false (by omega)
     simp (disch := try exact dz) only [↓bxD, bA, simprocAttr, k7, p3, c78, s4, d2]
     show Wp fns K11_0 _ _ _
     unfold K11_0
     simp (disch := try exact dz) only [↓bxD, bA, simprocAttr, k7, k8, wi]
     exact ⟨n + 1, by omega, by rfl, by omega, by omega, x48, M8.n, vk8, vs8, els8, Nat.le_refl _, hA8⟩
   ·have d1 : decide ((n : Int) < ((stN g n).2.length : Int)) = false := decide_eq_false (by omega)
    have hnl : (stN g n).2.length = n := by omega
    simp (disch := try exact dz) only [↓bxD, bA, simprocAttr, k7, k8, p1, c7, s2, d1]
    show Wp fns K11_3 _ _ _
    unfold K11_3
    simp (disch := try exact dz) only [↓bxD, bA, simprocAttr, k7, p1, c8]
    refine ⟨x04.trans x7, (0, some (stN g n)), ⟨z, hz, .inr ⟨hz0, some (stN g n), .all hnl (by omega), rfl⟩⟩, vs7, rfl, els7, hA.vs_own.1.row, hA.len, by omega, fun i e N d he hN hd => ?_⟩
    obtain ⟨vi, v1, v2, q1, q2, q3, _⟩ := hA.st i e N he hN
    obtain ⟨r1, r2, _⟩ := q3 d hd
    exact ⟨vi, v1, v2, q1, q2.row, r1.row, r2.row⟩
  ·exact ⟨by simp only [bA, reduceCtorEq], by simp only [bA, reduceCtorEq] <;> rfl, Nat.zero_le _, by show 1 ≤ 2000; omega, x46, M4.n, vk6, vs6, els6, by omega, hA6⟩
 ·have d0 : decide (z.2 ≠ 0) = true := decide_eq_true hz0
  simp (disch := try exact dz) only [↓bxD, bA, simprocAttr, d0]
  exact ⟨x12, (z.2, none), ⟨z, hz, .inl ⟨hz0, rfl⟩⟩, rfl⟩
structure RSt (lo hi : Nat) (M : MH) (v6 : MV) (ks : List Nat) (els : List (List MV)) (done : List StR) (cur : Option (List Int × List Nat)) : Prop where
 r6 : OwnRow lo M 3 v6 els
 len : els.length = ks.length
 st : ∀ (i : Nat) e N, els[i]? = some e → ks[i]? = some N → ∃ vi v1 v2, e = [vi, v1, v2] ∧ OwnRow lo M 2 vi (ivs (bitsOf N 576)) ∧ (∀ d, done[i]? = some d → OwnRow lo M 1 v1 (ints d.1) ∧ OwnRow lo M 1 v2 (intsN d.2) ∧ (∀ j, obj v1 = some j ∨ obj v2 = some j → j < hi)) ∧ (∀ a, cur = some a → i = done.length → OwnRow hi M 1 v1 (ints a.1) ∧ OwnRow hi M 1 v2 (intsN a.2) ∧ (∀ j, obj v1 = some j → obj v2 ≠ some j)) ∧ ((cur = none ∧ done.length ≤ i ∨ done.length < i) → v1 = .nils ∧ v2 = .nils)
section
variable {lo hi : Nat} {M M' : MH} {v6 : MV} {ks : List Nat} {els : List (List MV)} {done : List StR} {cur : Option (List Int × List Nat)}
theorem RSt.ext (h : RSt lo hi M v6 ks els done cur) (x : Ext M M') : RSt lo hi M' v6 ks els done cur := ⟨h.r6.ext x, h.len, fun i e N he hN => by
 obtain ⟨vi, v1, v2, a, b, c, d, f⟩ := h.st i e N he hN
 exact ⟨vi, v1, v2, a, b.ext x, fun dd hd => by obtain ⟨c1, c2, c3⟩ := c dd hd; exact ⟨c1.ext x, c2.ext x, c3⟩, fun aa ha hi => by obtain ⟨d1, d2, d3⟩ := d aa ha hi; exact ⟨d1.ext x, d2.ext x, d3⟩, f⟩⟩
theorem RSt.begin (h : RSt lo hi M v6 ks els done none) {hi' : Nat} (hh : hi ≤ hi') : RSt lo hi' M v6 ks els done (some ([], [])) := ⟨h.r6, h.len, fun i e N he hN => by
 obtain ⟨vi, v1, v2, a, b, c, d, f⟩ := h.st i e N he hN
 refine ⟨vi, v1, v2, a, b, fun dd hd => ?_, fun aa ha hid => ?_, fun hc => f (hc.elim (fun h => by cases h.1) .inr)⟩
 ·obtain ⟨c1, c2, c3⟩ := c dd hd
  exact ⟨c1, c2, fun j hj => Nat.lt_of_lt_of_le (c3 j hj) hh⟩
 ·injection ha with ha
  subst ha
  obtain ⟨rfl, rfl⟩ := f (.inl ⟨rfl, by omega⟩)
  exact ⟨OwnRow.nil _ _ _, OwnRow.nil _ _ _, fun j hj => by cases hj⟩⟩
theorem RSt.fin {a : List Int × List Nat} (h : RSt lo hi M v6 ks els done (some a)) (hlh : lo ≤ hi) : RSt lo M.n M v6 ks els (done ++ [a]) none := ⟨h.r6, h.len, fun i e N he hN => by
 obtain ⟨vi, v1, v2, q, b, c, d, f⟩ := h.st i e N he hN
 refine ⟨vi, v1, v2, q, b, fun dd hd => ?_, fun aa ha => (by cases ha), fun hc => f (.inr ?_)⟩
 ·by_cases hlt : i < done.length
  ·rw [List.getElem?_append_left hlt] at hd
   obtain ⟨c1, c2, _⟩ := c dd hd
   exact ⟨c1, c2, fun j hj => hj.elim (fun e => (own_obj c1 e).2.1) fun e => (own_obj c2 e).2.1⟩
  ·rw [List.getElem?_append_right (by omega)] at hd
   have hi0 := (List.getElem?_eq_some_iff.1 hd).1
   have hie : i = done.length := by simp only [List.length_cons, List.length_nil] at hi0; omega
   rw [hie, Nat.sub_self] at hd
   injection hd with hd
   subst hd
   obtain ⟨d1, d2, _⟩ := d a rfl hie
   exact ⟨d1.le hlh, d2.le hlh, fun j hj => hj.elim (fun e => (own_obj d1 e).2.1) fun e => (own_obj d2 e).2.1⟩
 ·rw [List.length_append] at hc
  simp only [List.length_cons, List.length_nil] at hc
  omega⟩
theorem RSt.more (h : RSt lo hi M v6 ks els done cur) (hlo : M.lo ≤ lo) (hln : lo ≤ M.n) {w : MV} {N : Nat} (hw : OwnRow lo M 2 w (ivs (bitsOf N 576))) (hk : ks.length ≤ 5000) (hd : done.length < ks.length) : ∃ v' M', appM (M.push (.cs false 3 (ofL [w, .nils, .nils] 0))) 3 72 v6 (.sl M.n 0 1 0) = some (v', M') ∧ RSt lo hi M' v' (ks ++ [N]) (els ++ [[w, .nils, .nils]]) done cur ∧ M.n ≤ M'.n ∧ M'.lo = M.lo ∧ (∀ j, j < M.n → obj v6 ≠ some j → M'.get j = M.get j) ∧ ∀ j, j < M.n → (∀ c, M.get j ≠ some (.cs false 3 c)) → M'.get j = M.get j := by
 have hle := h.len
 have hone : w.one = true := by
  obtain ⟨_, ⟨rfl, _⟩ | ⟨id, c, rfl, _⟩⟩ := hw <;> rfl
 obtain ⟨v', M', e1, e2, e3, e4, e5, e6, e7⟩ := app_obj (bytes := 72) (e := [w, .nils, .nils]) h.r6 hlo hln rfl (by rw [all_cons, all_cons, all_cons, all_nil, hone]; rfl) (by omega) (by omega)
 have ne3 : ∀ j, (∀ c, M.get j ≠ some (.cs false 3 c)) → obj v6 ≠ some j := fun j hj e => by
  obtain ⟨_, _, c, q⟩ := own_obj h.r6 e
  exact hj c q
 have kp : ∀ {s l : Nat} {v : MV} {es : List (List MV)}, OwnRow l M s v es → s ≠ 3 → OwnRow l M' s v es := fun ho hs => own_keep ho (by omega) fun j hj => by
  obtain ⟨_, q2, c, q⟩ := own_obj ho hj
  exact e7 j q2 (ne3 j fun c' e => by rw [q] at e; injection e with e; injection e with _ e; exact hs e)
 refine ⟨v', M', e1, ⟨e2, by rw [List.length_append, List.length_append, hle]; rfl, fun i e x he hx => ?_⟩, by omega, e4, fun j hj hv => e7 j hj hv, fun j hj hc => e7 j hj (ne3 j hc)⟩
 by_cases hi' : i < ks.length
 ·rw [List.getElem?_append_left (by omega)] at he
  rw [List.getElem?_append_left hi'] at hx
  obtain ⟨vi, v1, v2, a, b, c, d, f⟩ := h.st i e x he hx
  exact ⟨vi, v1, v2, a, kp b (by decide), fun dd hd => by obtain ⟨c1, c2, c3⟩ := c dd hd; exact ⟨kp c1 (by decide), kp c2 (by decide), c3⟩, fun aa ha hi => by obtain ⟨d1, d2, d3⟩ := d aa ha hi; exact ⟨kp d1 (by decide), kp d2 (by decide), d3⟩, f⟩
 ·have hi2 := (List.getElem?_eq_some_iff.1 hx).1
  rw [List.length_append] at hi2
  simp only [List.length_cons, List.length_nil] at hi2
  have hie : i = ks.length := by omega
  subst hie
  rw [List.getElem?_append_right (by omega), hle, Nat.sub_self] at he
  rw [List.getElem?_append_right (Nat.le_refl _), Nat.sub_self] at hx
  injection he with he
  injection hx with hx
  subst he hx
  exact ⟨w, .nils, .nils, rfl, kp hw (by decide), fun dd hd' => by have := (List.getElem?_eq_some_iff.1 hd').1; omega, fun aa ha hi' => by omega, fun _ => ⟨rfl, rfl⟩⟩
theorem setE_row {v6 : MV} {els : List (List MV)} {e : List MV} {n o : Nat} {x : MV} (h : OwnRow lo M 3 v6 els) (he : els[n]? = some e) (ho : o < 3) : ∃ id c, v6 = .sl id 0 els.length 0 ∧ M.get id = some (.cs false 3 c) ∧ lo ≤ id ∧ id < M.n ∧ hasB c 1 (n * 3 + o) = true ∧ (∀ k y, e[k]? = some y → cget c (n * 3 + k) = some y) ∧ ∀ (M2 : MH) (c2 : T MV), M2.get id = some (.cs false 3 c2) → M.n ≤ M2.n → (∀ j, cget c2 j = cget c j) → OwnRow lo (M2.set id (some (.cs false 3 (setN [x] (n * 3 + o) c2)))) 3 v6 (els.set n (e.set o x)) := by
 have hnl := (List.getElem?_eq_some_iff.1 he).1
 obtain ⟨hs, ⟨_, rfl⟩ | ⟨id, c, rfl, h1, h2, h3, h4⟩⟩ := h
 ·simp at hnl
 ·have hfl : els.flatten.length = els.length * 3 := Sized.flat hs
  have hel := h4.elem hs he
  rw [Nat.zero_add] at hel
  refine ⟨id, c, rfl, h1, h2, h3, has_at h4 (Nat.zero_le _) (by omega), fun k y hk => hel k y hk, fun M2 c2 hc2 hn heq => ⟨hs.set n (by rw [List.length_set]; exact hs e (List.mem_of_getElem? he)), .inr ⟨id, _, by rw [List.length_set], set_same _ _, h2, by rw [set_n]; omega, ?_⟩⟩⟩
  refine At.elem_set hs (fun j y hj => ?_) he ho rfl
  rw [heq]
  exact h4 j y hj
theorem RSt.cell {a a' : List Int × List Nat} (h : RSt lo hi M v6 ks els done (some a)) {n : Nat} (hn : done.length = n) (hnk : n < ks.length) :
  ∃ vi v1 v2, els[n]? = some [vi, v1, v2] ∧ OwnRow hi M 1 v1 (ints a.1) ∧ OwnRow hi M 1 v2 (intsN a.2) ∧ (∀ j, obj v1 = some j → obj v2 ≠ some j) := by
 have hle := h.len
 obtain ⟨N, hN⟩ : ∃ N, ks[n]? = some N := ⟨_, List.getElem?_eq_getElem hnk⟩
 obtain ⟨e, he⟩ : ∃ e, els[n]? = some e := ⟨_, List.getElem?_eq_getElem (by omega)⟩
 obtain ⟨vi, v1, v2, rfl, b, c, d, f⟩ := h.st n e N he hN
 obtain ⟨d1, d2, d3⟩ := d a rfl hn.symm
 exact ⟨vi, v1, v2, he, d1, d2, d3⟩
theorem RSt.sym {a : List Int × List Nat} (h : RSt lo hi M v6 ks els done (some a)) {n : Nat} (hn : done.length = n) (hnk : n < ks.length) (hlo : M.lo ≤ lo) (hlh : lo ≤ hi) (hln : hi ≤ M.n) {s : Int} (hl : a.1.length ≤ 1000) :
  ∃ vi v1 v2 id c w M2, els[n]? = some [vi, v1, v2] ∧ v6 = .sl id 0 els.length 0 ∧ M.get id = some (.cs false 3 c) ∧ lo ≤ id ∧ id < M.n ∧ cget c (n * 3 + 1) = some v1 ∧ hasB c 1 (n * 3 + 1) = true ∧ appM (M.push (.cs false 1 (ofL [.i .i64 s] 0))) 1 8 v1 (.sl M.n 0 1 0) = some (w, M2) ∧ isSl w = true ∧ M2.get id = some (.cs false 3 c) ∧ M.n + 1 ≤ M2.n ∧ M2.lo = M.lo ∧ (∀ j, j < M.n → j < hi ∨ (∀ c, M.get j ≠ some (.cs false 1 c)) → M2.get j = M.get j) ∧ RSt lo hi (M2.set id (some (.cs false 3 (setN [w] (n * 3 + 1) c)))) v6 ks (els.set n [vi, w, v2]) done (some (a.1 ++ [s], a.2)) := by
 obtain ⟨vi, v1, v2, he, r1, r2, hap⟩ := h.cell (a' := a) hn hnk
 have hle := h.len
 obtain ⟨w, M2, e1, e2, e3, e4, e5, e6, e7⟩ := app_obj (bytes := 8) (e := [.i .i64 s]) r1 (by omega) hln rfl rfl (by rw [ints_len]; omega) (by rw [ints_len]; omega)
 obtain ⟨id, c, q1, q2, q3, q4, q5, q6, q7⟩ := setE_row (x := w) (o := 1) h.r6 he (by decide)
 have fr : ∀ j, j < M.n → j < hi ∨ (∀ c, M.get j ≠ some (.cs false 1 c)) → M2.get j = M.get j := fun j hj hd => e7 j hj fun e => by
  obtain ⟨o1, _, c', o2⟩ := own_obj r1 e
  rcases hd with hd | hd
  ·omega
  ·exact hd c' o2
 have hg2 : M2.get id = some (.cs false 3 c) := (fr id q4 (.inr fun c' e => by rw [q2] at e; injection e with e; injection e with _ e; cases e)).trans q2
 refine ⟨vi, v1, v2, id, c, w, M2, he, q1, q2, q3, q4, q6 1 v1 rfl, q5, e1, e6, hg2, e3, e4, fr, q7 M2 c hg2 (by omega) (fun _ => rfl), by rw [List.length_set]; exact hle, fun i e N hei hN => ?_⟩
 have st3 : ∀ {s l : Nat} {v : MV} {es : List (List MV)}, OwnRow l M2 s v es → s ≠ 3 → OwnRow l (M2.set id (some (.cs false 3 (setN [w] (n * 3 + 1) c)))) s v es := fun ho hs => own_keep ho (Nat.le_refl _) fun j hj => set_ne fun e => by
  obtain ⟨_, _, c', o⟩ := own_obj ho hj
  rw [e, hg2] at o
  injection o with o
  injection o with _ o
  exact hs o.symm
 have kp2 : ∀ {l : Nat} {v : MV} {es : List (List MV)}, OwnRow l M 2 v es → OwnRow l M2 2 v es := fun ho => own_keep ho (by omega) fun j hj => by
  obtain ⟨_, o1, c', o⟩ := own_obj ho hj
  exact fr j o1 (.inr fun c2 e => by rw [o] at e; injection e with e; injection e with _ e; cases e)
 rw [List.getElem?_set] at hei
 by_cases hin : n = i
 ·subst hin
  rw [if_pos rfl, if_pos (by omega)] at hei
  injection hei with hei
  subst hei
  obtain ⟨vi', v1', v2', b1, b2, _, _, _⟩ := h.st n _ N he hN
  injection b1 with b1 _
  subst b1
  refine ⟨vi, w, v2, rfl, st3 (kp2 b2) (by decide), fun d hd => by have := (List.getElem?_eq_some_iff.1 hd).1; omega, fun aa ha _ => ?_, fun hc => by rcases hc with ⟨hc, _⟩ | hc; cases hc; omega⟩
  injection ha with ha
  subst ha
  refine ⟨st3 (by show OwnRow hi M2 1 w (ints (a.1 ++ [s])); rw [ints_app1]; exact e2) (by decide), st3 (own_keep r2 (by omega) fun j hj => e7 j (own_obj r2 hj).2.1 fun e => hap j e hj) (by decide), fun j hj e => ?_⟩
  rw [e5] at hj
  injection hj with hj
  have := (own_obj r2 e).2.1
  omega
 ·rw [if_neg hin] at hei
  obtain ⟨wi, w1, w2, b1, b2, b3, b4, b5⟩ := h.st i e N hei hN
  refine ⟨wi, w1, w2, b1, st3 (kp2 b2) (by decide), fun d hd => ?_, fun aa _ hid => absurd (hn.symm.trans hid.symm) hin, fun hc => b5 (hc.elim (fun h => by cases h.1) .inr)⟩
  obtain ⟨c1, c2, c3⟩ := b3 d hd
  exact ⟨st3 (own_keep c1 (by omega) fun j hj => fr j (own_obj c1 hj).2.1 (.inl (c3 j (.inl hj)))) (by decide), st3 (own_keep c2 (by omega) fun j hj => fr j (own_obj c2 hj).2.1 (.inl (c3 j (.inr hj)))) (by decide), c3⟩
theorem RSt.too {a : List Int × List Nat} (h : RSt lo hi M v6 ks els done (some a)) {n : Nat} (hn : done.length = n) (hnk : n < ks.length) (hlo : M.lo ≤ lo) (hlh : lo ≤ hi) (hln : hi ≤ M.n) {s : Nat} (hl : a.2.length ≤ 1000) :
  ∃ vi v1 v2 id c w M2, els[n]? = some [vi, v1, v2] ∧ v6 = .sl id 0 els.length 0 ∧ M.get id = some (.cs false 3 c) ∧ lo ≤ id ∧ id < M.n ∧ cget c (n * 3 + 2) = some v2 ∧ hasB c 1 (n * 3 + 2) = true ∧ appM (M.push (.cs false 1 (ofL [.i .i64 (s : Int)] 0))) 1 8 v2 (.sl M.n 0 1 0) = some (w, M2) ∧ isSl w = true ∧ M2.get id = some (.cs false 3 c) ∧ M.n + 1 ≤ M2.n ∧ M2.lo = M.lo ∧ (∀ j, j < M.n → j < hi ∨ (∀ c, M.get j ≠ some (.cs false 1 c)) → M2.get j = M.get j) ∧ RSt lo hi (M2.set id (some (.cs false 3 (setN [w] (n * 3 + 2) c)))) v6 ks (els.set n [vi, v1, w]) done (some (a.1, a.2 ++ [s])) := by
 obtain ⟨vi, v1, v2, he, r1, r2, hap⟩ := h.cell (a' := a) hn hnk
 have hle := h.len
 obtain ⟨w, M2, e1, e2, e3, e4, e5, e6, e7⟩ := app_obj (bytes := 8) (e := [.i .i64 (s : Int)]) r2 (by omega) hln rfl rfl (by rw [intsN_len]; omega) (by rw [intsN_len]; omega)
 obtain ⟨id, c, q1, q2, q3, q4, q5, q6, q7⟩ := setE_row (x := w) (o := 2) h.r6 he (by decide)
 have fr : ∀ j, j < M.n → j < hi ∨ (∀ c, M.get j ≠ some (.cs false 1 c)) → M2.get j = M.get j := fun j hj hd => e7 j hj fun e => by
  obtain ⟨o1, _, c', o2⟩ := own_obj r2 e
  rcases hd with hd | hd
  ·omega
  ·exact hd c' o2
 have hg2 : M2.get id = some (.cs false 3 c) := (fr id q4 (.inr fun c' e => by rw [q2] at e; injection e with e; injection e with _ e; cases e)).trans q2
 refine ⟨vi, v1, v2, id, c, w, M2, he, q1, q2, q3, q4, q6 2 v2 rfl, q5, e1, e6, hg2, e3, e4, fr, q7 M2 c hg2 (by omega) (fun _ => rfl), by rw [List.length_set]; exact hle, fun i e N hei hN => ?_⟩
 have st3 : ∀ {s l : Nat} {v : MV} {es : List (List MV)}, OwnRow l M2 s v es → s ≠ 3 → OwnRow l (M2.set id (some (.cs false 3 (setN [w] (n * 3 + 2) c)))) s v es := fun ho hs => own_keep ho (Nat.le_refl _) fun j hj => set_ne fun e => by
  obtain ⟨_, _, c', o⟩ := own_obj ho hj
  rw [e, hg2] at o
  injection o with o
  injection o with _ o
  exact hs o.symm
 have kp2 : ∀ {l : Nat} {v : MV} {es : List (List MV)}, OwnRow l M 2 v es → OwnRow l M2 2 v es := fun ho => own_keep ho (by omega) fun j hj => by
  obtain ⟨_, o1, c', o⟩ := own_obj ho hj
  exact fr j o1 (.inr fun c2 e => by rw [o] at e; injection e with e; injection e with _ e; cases e)
 rw [List.getElem?_set] at hei
 by_cases hin : n = i
 ·subst hin
  rw [if_pos rfl, if_pos (by omega)] at hei
  injection hei with hei
  subst hei
  obtain ⟨vi', v1', v2', b1, b2, _, _, _⟩ := h.st n _ N he hN
  injection b1 with b1 _
  subst b1
  refine ⟨vi, v1, w, rfl, st3 (kp2 b2) (by decide), fun d hd => by have := (List.getElem?_eq_some_iff.1 hd).1; omega, fun aa ha _ => ?_, fun hc => by rcases hc with ⟨hc, _⟩ | hc; cases hc; omega⟩
  injection ha with ha
  subst ha
  refine ⟨st3 (own_keep r1 (by omega) fun j hj => e7 j (own_obj r1 hj).2.1 fun e => hap j hj e) (by decide), st3 (by show OwnRow hi M2 1 w (intsN (a.2 ++ [s])); rw [intsN_app]; exact e2) (by decide), fun j hj e => ?_⟩
  rw [e5] at e
  injection e with e
  have := (own_obj r1 hj).2.1
  omega
 ·rw [if_neg hin] at hei
  obtain ⟨wi, w1, w2, b1, b2, b3, b4, b5⟩ := h.st i e N hei hN
  refine ⟨wi, w1, w2, b1, st3 (kp2 b2) (by decide), fun d hd => ?_, fun aa _ hid => absurd (hn.symm.trans hid.symm) hin, fun hc => b5 (hc.elim (fun h => by cases h.1) .inr)⟩
  obtain ⟨c1, c2, c3⟩ := b3 d hd
  exact ⟨st3 (own_keep c1 (by omega) fun j hj => fr j (own_obj c1 hj).2.1 (.inl (c3 j (.inl hj)))) (by decide), st3 (own_keep c2 (by omega) fun j hj => fr j (own_obj c2 hj).2.1 (.inl (c3 j (.inr hj)))) (by decide), c3⟩
end
end Go.Proofs.YtpdcahaggacacaaDoor.K
set_option linter.unusedSimpArgs false
set_option linter.unusedVariables false
namespace Go.Proofs.YtpdcahaggacacaaDoor.K
open Go Ev
set_option maxRecDepth 100000
set_option maxHeartbeats 4000000

def Same6 (f f' : Fr) : Prop := X.ev f' (.t q1) = X.ev f (.t q1) ∧ X.ev f' (.t q6) = X.ev f (.t q6) ∧ X.ev f' (.t q7) = X.ev f (.t q7) ∧ X.ev f' (.t q8) = X.ev f (.t q8) ∧ X.ev f' (.t q9) = X.ev f (.t q9) ∧ X.ev f' (.t q10) = X.ev f (.t q10)
theorem next_take_some {g : Gr} {c : List Nat} (hc : Ris c) {j n : Nat} {s : Int} (h : c[j]? = some n) (hb : behN g n = some s) : nextL g (c.take (j + 1)) s = insN (n + 1) (nextL g (c.take j) s) := by
 have hr : ∀ i, Ris (c.take i) := fun i => List.Pairwise.sublist (List.take_sublist i c) hc
 refine Ev.ris_ext (ris_next (hr _)) (insN_ris _ (ris_next (hr _))) fun x => ?_
 rw [insN_mem, mem_next, mem_next, List.take_add_one, h]
 constructor
 ·rintro ⟨m, hm, e1, e2⟩
  rcases List.mem_append.1 hm with hm | hm
  ·exact .inr ⟨m, hm, e1, e2⟩
  ·rw [List.mem_singleton.1 hm] at e2; exact .inl e2
 ·rintro (e | ⟨m, hm, e1, e2⟩)
  ·exact ⟨n, List.mem_append_right _ (List.mem_singleton.2 rfl), hb, e⟩
  ·exact ⟨m, List.mem_append_left _ hm, e1, e2⟩
theorem next_take_no {g : Gr} {c : List Nat} {j n : Nat} {s : Int} (h : c[j]? = some n) (hb : behN g n ≠ some s) : nextL g (c.take (j + 1)) s = nextL g (c.take j) s := by
 unfold nextL
 rw [List.take_add_one, h, List.filter_append]
 simp only [Option.toList_some, List.filter_cons, decide_eq_false hb, List.filter_nil, List.append_nil, Bool.false_eq_true, if_false]
theorem nextL_len {g : Gr} {c : List Nat} {s : Int} : (nextL g c s).length ≤ c.length := by
 unfold nextL
 rw [List.length_map]
 exact List.length_filter_le _ _
theorem rnext {M : MH} {g : Gr} {vr vf vc vk va vy : MV} {es : List (List MV)} {c : List Nat} {sy : List Int} {k A : Nat} {s : Int} {f : Fr} (h : GrAt M vr vf vc vk es g) (hz : (formP g).2 = 0) (hA : M.get A = some (.cs false 7 (ofL (gcs g vr vf vc vk) 0))) (hAn : A < M.n) (hv : RowAt M 2 va (ivs c)) (hc : Ris c) (hcI : ∀ n ∈ c, IsN g n) (hcl : c.length ≤ 1000) (hy : IntRow M vy sy) (hs : sy[k]? = some s) (hlo : M.lo ≤ M.n)
  (e1 : X.ev f (.t q1) = .p A 0) (e8 : X.ev f (.t q8) = va) (e9 : X.ev f (.t q9) = vy) (e10 : X.ev f (.t q10) = .i .i64 (k : Int)) (e11 : X.ev f (.t q11) = .nils) (e12 : X.ev f (.t q12) = .i .i64 0) (Q : Post)
  (hQ : ∀ f' M' w, Same6 f f' → X.ev f' (.t q11) = w → Ext M M' → OwnRow M.n M' 2 w (ivs (nextL g c s)) → Q .norm f' M') : Wp fns (.loop L12_3) f M (blockQ 4 Q) := by
 have hok := form_ok hz
 have h60 := hok.rl
 obtain ⟨s1, s2⟩ := hv.sl
 rw [ivs_len] at s2
 obtain ⟨y1, y2⟩ := hy.sl
 have hkl := (List.getElem?_eq_some_iff.1 hs).1
 unfold Same6 at hQ
 simp only [q1, q6, q7, q8, q9, q10, q11, q12] at e1 e8 e9 e10 e11 e12 hQ
 refine Wp_inv (σ := Nat) (fun j f' M' => j ≤ c.length ∧ Ext M M' ∧ X.ev f' (.t q1) = X.ev f (.t q1) ∧ X.ev f' (.t q6) = X.ev f (.t q6) ∧ X.ev f' (.t q7) = X.ev f (.t q7) ∧ X.ev f' (.t q8) = X.ev f (.t q8) ∧ X.ev f' (.t q9) = X.ev f (.t q9) ∧ X.ev f' (.t q10) = X.ev f (.t q10) ∧ X.ev f' (.t q12) = .i .i64 (j : Int) ∧ ∃ w, X.ev f' (.t q11) = w ∧ OwnRow M.n M' 2 w (ivs (nextL g (c.take j) s))) (fun j => c.length - j) ?_ 0 ?_
 ·rintro j f' M1 ⟨hj, hx, k1, k6, k7, k8, k9, k10, k12, w, k11, hw⟩
  simp only [q1, q6, q7, q8, q9, q10, q11, q12] at k1 k6 k7 k8 k9 k10 k11 k12
  have j1 := k1.trans e1
  have j8 := k8.trans e8
  have j9 := k9.trans e9
  have j10 := k10.trans e10
  have xn := hx.n
  have xl := hx.lo
  have gA := (hx.old A hAn).trans hA
  unfold L12_3
  by_cases hj' : j < c.length
  ·have d0 : decide ((j : Int) < (c.length : Int)) = true := decide_eq_true (by omega)
   obtain ⟨n, hn⟩ : ∃ n, c[j]? = some n := ⟨_, List.getElem?_eq_getElem hj'⟩
   have hnI := hcI n (List.mem_of_getElem? hn)
   have hn549 := hnI.lt hok h60
   obtain ⟨ro, sz, tt, hg, hid, hN2, hc0, hc1⟩ := itc_read (hv.ext hx) hn
   have wi : wrapF .i64 ((j : Int) + 1) = ((j + 1 : Nat) : Int) := by rw [wrap_in (by omega) (by omega)]; omega
   simp (disch := try exact dz) only [↓bxD, bA, simprocAttr, j8, k12, s2, d0]
   show Wp fns K12_2 _ _ _
   unfold K12_2
   simp (disch := try exact dz) only [↓bxD, bA, simprocAttr]
   refine Wp_dreg_of (by omega) ?_
   simp (disch := try exact dz) only [↓bxD, bA, simprocAttr, j1, j8, k12, gA, g_N, hg, hN2]
   refine bindP_call (rbehind_any (h.ext hx) hnI (by omega) h60 (by omega)) ?_
   rintro m3 M3 ⟨x3, z, rfl, hzb⟩
   have n3 := x3.n
   have l3 := x3.lo
   obtain ⟨yo, ys, yt, yg, yid, yC⟩ := (hy.ext (hx.trans x3)).read hs
   cases hb : behN g n with
   | none =>
    simp (disch := try exact dz) only [↓bxD, bA, simprocAttr, e1, e8, e9, e10, Option.isSome_none]
    show Wp fns K12_0 _ _ _
    unfold K12_0
    simp (disch := try exact dz) only [↓bxD, bA, simprocAttr]
    show Wp fns K12_1 _ _ _
    unfold K12_1
    simp (disch := try exact dz) only [↓bxD, bA, simprocAttr, j1, k6, k7, j8, j9, j10, k11, k12, wi]
    refine ⟨j + 1, by omega, by omega, hx.trans x3, rfl, w, rfl, ?_⟩
    rw [next_take_no hn (by rw [hb]; simp)]
    exact hw.ext x3
   | some s' =>
    obtain rfl := hzb s' hb
    by_cases hzs : z = s
    ·have d1 : decide (z = s) = true := decide_eq_true hzs
     obtain ⟨ni1, ni2, ni3⟩ := next_item hok hb
     have g3' := (x3.old _ hid).trans hg
     have w2 : wrapF .i64 (((n % 9 : Nat) : Int) + 1) = (((n + 1) % 9 : Nat) : Int) := by rw [wrap_in (by omega) (by omega)]; omega
     have ff : fillM [(0, 1, MV.i .i64 (((n / 9 : Nat) : Int) - 1)), (1, 1, MV.i .i64 (((n + 1) % 9 : Nat) : Int))] [.i .i64 0, .i .i64 0] = some (itc (n + 1)) := by unfold itc; rw [ni1]; rfl
     have hnl : (nextL g (c.take j) s).length ≤ 1000 := Nat.le_trans nextL_len (by rw [List.length_take]; omega)
     simp (disch := try exact dz) only [↓bxD, bA, simprocAttr, e1, e8, e9, e10, Option.isSome_some]
     show Wp fns K12_0 _ _ _
     unfold K12_0
     simp (disch := try exact dz) only [↓bxD, bA, simprocAttr, j9, j10, yg, yC, d1]
     refine Wp_dreg_of (by omega) ?_
     simp (disch := try exact dz) only [↓bxD, bA, simprocAttr, j8, k11, k12, g3', hc0, hc1, w2, ff]
     refine bindP_call (put_any (p := n + 1) (by omega) (hw.ext x3).row (by omega)) ?_
     rintro m4 M4 ⟨x4, hr4, ho4⟩
     simp (disch := try exact dz) only [↓bxD, bA, simprocAttr]
     show Wp fns K12_1 _ _ _
     unfold K12_1
     simp (disch := try exact dz) only [↓bxD, bA, simprocAttr, j1, k6, k7, j8, j9, j10, k12, wi]
     refine ⟨j + 1, by omega, by omega, (hx.trans x3).trans x4, rfl, m4, rfl, ?_⟩
     rw [next_take_some hc hn (by rw [hb, hzs])]
     rcases ho4 with ⟨rfl, e⟩ | ho4
     ·rw [e]; exact (hw.ext x3).ext x4
     ·exact ho4.le (by omega)
    ·have d1 : decide (z = s) = false := decide_eq_false hzs
     simp (disch := try exact dz) only [↓bxD, bA, simprocAttr, e1, e8, e9, e10, Option.isSome_some]
     show Wp fns K12_0 _ _ _
     unfold K12_0
     simp (disch := try exact dz) only [↓bxD, bA, simprocAttr, j9, j10, yg, yC, d1]
     show Wp fns K12_1 _ _ _
     unfold K12_1
     simp (disch := try exact dz) only [↓bxD, bA, simprocAttr, j1, k6, k7, j8, j9, j10, k11, k12, wi]
     refine ⟨j + 1, by omega, by omega, hx.trans x3, rfl, w, rfl, ?_⟩
     rw [next_take_no hn (fun e => hzs (by rw [hb] at e; exact Option.some.inj e))]
     exact hw.ext x3
  ·have hjl : j = c.length := by omega
   subst hjl
   rw [List.take_length] at hw
   have d0 : decide ((c.length : Int) < (c.length : Int)) = false := decide_eq_false (by omega)
   simp (disch := try exact dz) only [↓bxD, bA, simprocAttr, j8, k12, s2, d0, e1, e8, e9, e10]
   exact hQ _ M1 w ⟨by simp (disch := try exact dz) only [bA, simprocAttr, j1, e1], by simp only [bA, reduceCtorEq, k6], by simp only [bA, reduceCtorEq, k7], by simp (disch := try exact dz) only [bA, simprocAttr, j8, e8], by simp (disch := try exact dz) only [bA, simprocAttr, j9, e9], by simp (disch := try exact dz) only [bA, simprocAttr, j10, e10]⟩ (by simp only [bA, reduceCtorEq, k11]) hx hw
 ·refine ⟨Nat.zero_le _, .refl _, by simp only [bA], by simp only [bA], by simp only [bA], by simp only [bA], by simp only [bA], by simp only [bA], by simp (disch := try exact dz) only [bA, simprocAttr, e12] <;> rfl, .nils, by simp (disch := try exact dz) only [bA, simprocAttr, e11], ?_⟩
  rw [List.take_zero]
  exact OwnRow.nil _ _ _
theorem idx_first : ∀ {l : List Nat} {i N : Nat}, l[i]? = some N → (∀ k, k < i → l[k]? ≠ some N) → l.idxOf N = i
 | [], i, N, h, _ => by simp at h
 | x :: l, 0, N, h, _ => by
  injection h with h
  subst h
  exact List.idxOf_cons_self
 | x :: l, i + 1, N, h, hk => by
  have h0 : x ≠ N := fun e => hk 0 (by omega) (by rw [e]; rfl)
  rw [List.idxOf_cons, show (x == N) = false from by rw [beq_eq_false_iff_ne]; exact h0]
  have := idx_first (l := l) (i := i) (N := N) (by simpa using h) fun k hk' => by have := hk (k + 1) (by omega); simpa using this
  rw [this]
  rfl
theorem rfind {lo hi : Nat} {M : MH} {v6 vn : MV} {ks : List Nat} {els : List (List MV)} {done : List StR} {cur : Option (List Int × List Nat)} {N : Nat} {f : Fr} (h : RSt lo hi M v6 ks els done cur) (hk : ks.length ≤ 5000) (hB : ∀ k ∈ ks, Bits k) (hN : Bits N) (hn : RowAt M 2 vn (ivs (bitsOf N 576))) (hlo : M.lo ≤ M.n)
  (e6 : X.ev f (.t q6) = v6) (e11 : X.ev f (.t q11) = vn) (e15 : X.ev f (.t q15) = .i .i64 (Int.negSucc 0)) (e16 : X.ev f (.t q16) = .i .i64 0) (Q : Post)
  (hQ : ∀ f' M', Same6 f f' → X.ev f' (.t q11) = X.ev f (.t q11) → X.ev f' (.t q15) = .i .i64 (if N ∈ ks then ((ks.idxOf N : Nat) : Int) else Int.negSucc 0) → Ext M M' → Q .norm f' M') : Wp fns (.loop L12_6) f M (blockQ 6 Q) := by
 obtain ⟨s1, s2⟩ := h.r6.row.sl
 have hle := h.len
 rw [hle] at s2
 have hn0 : Int.negSucc 0 = -1 := rfl
 unfold Same6 at hQ
 simp only [q1, q6, q7, q8, q9, q10, q11, q15, q16] at e6 e11 e15 e16 hQ
 refine Wp_inv (σ := Nat × Bool) (fun s f' M' => s.1 ≤ ks.length ∧ Ext M M' ∧ X.ev f' (.t q1) = X.ev f (.t q1) ∧ X.ev f' (.t q6) = X.ev f (.t q6) ∧ X.ev f' (.t q7) = X.ev f (.t q7) ∧ X.ev f' (.t q8) = X.ev f (.t q8) ∧ X.ev f' (.t q9) = X.ev f (.t q9) ∧ X.ev f' (.t q10) = X.ev f (.t q10) ∧ X.ev f' (.t q11) = X.ev f (.t q11) ∧ X.ev f' (.t q16) = .i .i64 (s.1 : Int) ∧ (s.2 = false → X.ev f' (.t q15) = .i .i64 (Int.negSucc 0) ∧ ∀ k, k < s.1 → ks[k]? ≠ some N) ∧ (s.2 = true → ∃ i, i + 1 = s.1 ∧ X.ev f' (.t q15) = .i .i64 (i : Int) ∧ ks[i]? = some N ∧ ∀ k, k < i → ks[k]? ≠ some N)) (fun s => 2 * (ks.length - s.1) + (if s.2 then 0 else 1)) ?_ (0, false) ?_
 ·rintro ⟨j, b⟩ f' M1 ⟨hj, hx, k1, k6, k7, k8, k9, k10, k11, k16, hf, ht⟩
  simp only at hj hf ht k16
  simp only [q1, q6, q7, q8, q9, q10, q11, q15, q16] at k1 k6 k7 k8 k9 k10 k11 k16 hf ht
  have xn := hx.n
  have xl := hx.lo
  have j6 := k6.trans e6
  have j11 := k11.trans e11
  unfold L12_6
  cases b with
  | true =>
   obtain ⟨i, hi1, k15, hiN, hik⟩ := ht rfl
   have hmem := List.mem_of_getElem? hiN
   have hix := idx_first hiN hik
   have d1 : decide ((i : Int) < 0) = false := decide_eq_false (by omega)
   by_cases hjl : j < ks.length
   ·have d0 : decide ((j : Int) < (ks.length : Int)) = true := decide_eq_true (by omega)
    simp (disch := try exact dz) only [↓bxD, bA, simprocAttr, j6, k15, k16, e6, e11, s2, d0, d1]
    exact hQ _ M1 ⟨by simp only [bA, reduceCtorEq, k1], by simp (disch := try exact dz) only [bA, simprocAttr, j6, e6], by simp only [bA, reduceCtorEq, k7], by simp only [bA, reduceCtorEq, k8], by simp only [bA, reduceCtorEq, k9], by simp only [bA, reduceCtorEq, k10]⟩ (by simp (disch := try exact dz) only [bA, simprocAttr, j11, e11]) (by rw [if_pos hmem, hix]; simp (disch := try exact dz) only [bA, simprocAttr, k15]) hx
   ·have d0 : decide ((j : Int) < (ks.length : Int)) = false := decide_eq_false (by omega)
    simp (disch := try exact dz) only [↓bxD, bA, simprocAttr, j6, k16, e6, e11, s2, d0]
    exact hQ _ M1 ⟨by simp only [bA, reduceCtorEq, k1], by simp (disch := try exact dz) only [bA, simprocAttr, j6, e6], by simp only [bA, reduceCtorEq, k7], by simp only [bA, reduceCtorEq, k8], by simp only [bA, reduceCtorEq, k9], by simp only [bA, reduceCtorEq, k10]⟩ (by simp (disch := try exact dz) only [bA, simprocAttr, j11, e11]) (by rw [if_pos hmem, hix]; simp (disch := try exact dz) only [bA, simprocAttr, k15]) hx
  | false =>
   obtain ⟨k15, hno⟩ := hf rfl
   have d1 : decide (Int.negSucc 0 < 0) = true := rfl
   by_cases hjl : j < ks.length
   ·have d0 : decide ((j : Int) < (ks.length : Int)) = true := decide_eq_true (by omega)
    obtain ⟨N', hN'⟩ : ∃ N', ks[j]? = some N' := ⟨_, List.getElem?_eq_getElem hjl⟩
    obtain ⟨e, he⟩ : ∃ e, els[j]? = some e := ⟨_, List.getElem?_eq_getElem (by omega)⟩
    obtain ⟨vi, v1, v2, rfl, hvi, _, _, _⟩ := h.st j e N' he hN'
    obtain ⟨ro, sz, t, g, gid, gC⟩ := (h.ext hx).r6.row.read he
    have c0 : cget t (soff v6 + j * 3) = some vi := by have := gC 0 _ rfl; simpa using this
    have wi : wrapF .i64 ((j : Int) + 1) = ((j + 1 : Nat) : Int) := by rw [wrap_in (by omega) (by omega)]; omega
    simp (disch := try exact dz) only [↓bxD, bA, simprocAttr, j6, k15, k16, e6, e11, s2, d0]
    show Wp fns K12_5 _ _ _
    unfold K12_5
    simp (disch := try exact dz) only [↓bxD, bA, simprocAttr, j6, j11, k16, g, c0]
    refine bindP_call (same_items (by omega) (hvi.ext hx).row (hn.ext hx) (by have := bitsOf_len N' 576; omega)) ?_
    rintro m M2 ⟨rfl, x2⟩
    by_cases heq : N' = N
    ·subst heq
     have d2 : decide (bitsOf N' 576 = bitsOf N' 576) = true := decide_eq_true rfl
     simp (disch := try exact dz) only [↓bxD, bA, simprocAttr, k16]
     show Wp fns K12_4 _ _ _
     unfold K12_4
     simp (disch := try exact dz) only [↓bxD, bA, simprocAttr, k1, j6, k7, k8, k9, k10, j11, k16, wi]
     exact ⟨(j + 1, true), by simp only [if_true]; omega, by simp only; omega, hx.trans x2, rfl, fun e => (by cases e), fun _ => ⟨j, rfl, rfl, hN', hno⟩⟩
    ·have d2 : decide (bitsOf N' 576 = bitsOf N 576) = false := decide_eq_false fun e => heq (Nat.eq_of_testBit_eq fun i => by
      have : i ∈ bitsOf N' 576 ↔ i ∈ bitsOf N 576 := by rw [e]
      rw [mem_bits, mem_bits] at this
      rw [Bool.eq_iff_iff]
      exact ⟨fun b => (this.1 ⟨hB N' (List.mem_of_getElem? hN') i b, b⟩).2, fun b => (this.2 ⟨hN i b, b⟩).2⟩)
     simp (disch := try exact dz) only [↓bxD, bA, simprocAttr, d2]
     show Wp fns K12_4 _ _ _
     unfold K12_4
     simp (disch := try exact dz) only [↓bxD, bA, simprocAttr, k1, j6, k7, k8, k9, k10, j11, k15, k16, wi]
     refine ⟨(j + 1, false), by simp only [Bool.false_eq_true, if_false]; omega, by simp only; omega, hx.trans x2, rfl, fun _ k hk e => ?_, fun e => (by cases e)⟩
     by_cases hkj : k = j
     ·rw [hkj, hN'] at e
      injection e with e
      exact heq e
     ·exact hno k (by simp only at hk; omega) e
   ·have d0 : decide ((j : Int) < (ks.length : Int)) = false := decide_eq_false (by omega)
    simp (disch := try exact dz) only [↓bxD, bA, simprocAttr, j6, k16, e6, e11, s2, d0]
    refine hQ _ M1 ⟨by simp only [bA, reduceCtorEq, k1], by simp (disch := try exact dz) only [bA, simprocAttr, j6, e6], by simp only [bA, reduceCtorEq, k7], by simp only [bA, reduceCtorEq, k8], by simp only [bA, reduceCtorEq, k9], by simp only [bA, reduceCtorEq, k10]⟩ (by simp (disch := try exact dz) only [bA, simprocAttr, j11, e11]) ?_ hx
    rw [if_neg (fun hm => by
     obtain ⟨k, hk⟩ := List.getElem?_of_mem hm
     have := (List.getElem?_eq_some_iff.1 hk).1
     exact hno k (by omega) hk)]
    simp (disch := try exact dz) only [bA, simprocAttr, k15]
 ·exact ⟨Nat.zero_le _, .refl _, by simp only [bA], by simp only [bA], by simp only [bA], by simp only [bA], by simp only [bA], by simp only [bA], by simp only [bA], by simp (disch := try exact dz) only [bA, simprocAttr, e16] <;> rfl, fun _ => ⟨by simp (disch := try exact dz) only [bA, simprocAttr, e15], fun k hk => (by omega)⟩, fun e => (by cases e)⟩
structure FrL (lo hi : Nat) (M M' : MH) : Prop where
 n : M.n ≤ M'.n
 l : M'.lo = M.lo
 old : ∀ j, j < M.n → (j < lo ∨ ((∀ c, M.get j ≠ some (.cs false 3 c)) ∧ (j < hi ∨ ∀ c, M.get j ≠ some (.cs false 1 c)))) → M'.get j = M.get j
theorem FrL.refl (lo hi : Nat) (M : MH) : FrL lo hi M M := ⟨Nat.le_refl _, rfl, fun _ _ _ => rfl⟩
theorem FrL.trans {lo hi : Nat} {a b c : MH} (h : FrL lo hi a b) (k : FrL lo hi b c) : FrL lo hi a c := ⟨Nat.le_trans h.n k.n, k.l.trans h.l, fun j hj hd => by
 have e := h.old j hj hd
 rw [← e]
 exact k.old j (Nat.lt_of_lt_of_le hj h.n) (by rw [e]; exact hd)⟩
theorem FrL.of {lo hi : Nat} {a b : MH} (x : Ext a b) : FrL lo hi a b := ⟨x.n, x.lo, fun j hj _ => x.old j hj⟩
def Same5 (f f' : Fr) : Prop := X.ev f' (.t q1) = X.ev f (.t q1) ∧ X.ev f' (.t q7) = X.ev f (.t q7) ∧ X.ev f' (.t q8) = X.ev f (.t q8) ∧ X.ev f' (.t q9) = X.ev f (.t q9) ∧ X.ev f' (.t q10) = X.ev f (.t q10)
section
variable {lo hi : Nat} {M : MH} {v6 vy : MV} {ks : List Nat} {els : List (List MV)} {done : List StR} {a : List Int × List Nat} {sy : List Int} {n k t : Nat} {s : Int} {f : Fr}
theorem rtail (h : RSt lo hi M v6 ks els done (some a)) (hn : done.length = n) (hnk : n < ks.length) (hlo : M.lo ≤ lo) (hlh : lo ≤ hi) (hln : hi ≤ M.n) (hl1 : a.1.length ≤ 1000) (hl2 : a.2.length ≤ 1000) (hy : IntRow M vy sy) (hs : sy[k]? = some s)
  (e6 : X.ev f (.t q6) = v6) (e7 : X.ev f (.t q7) = .i .i64 (n : Int)) (e9 : X.ev f (.t q9) = vy) (e10 : X.ev f (.t q10) = .i .i64 (k : Int)) (e15 : X.ev f (.t q15) = .i .i64 (t : Int)) (Q : Post)
  (hQ : ∀ f' M' els', Same5 f f' → X.ev f' (.t q6) = v6 → FrL lo hi M M' → RSt lo hi M' v6 ks els' done (some (a.1 ++ [s], a.2 ++ [t])) → Q .norm f' M') : Wp fns K12_9 f M Q := by
 obtain ⟨s1, s2⟩ := h.r6.row.sl
 have hle := h.len
 rw [hle] at s2
 obtain ⟨y1, y2⟩ := hy.sl
 have hkl := (List.getElem?_eq_some_iff.1 hs).1
 obtain ⟨yo, ys, yt, yg, yid, yC⟩ := hy.read hs
 obtain ⟨vi, v1, v2, id, c, w, M2, he, rfl, g1, i1, i2, c1, b1, a1, a2, g2, a3, a4, fr, h2⟩ := h.sym (s := s) hn hnk hlo hlh hln hl1
 have hst1 : ∀ {v : MV}, isSl v = true → stOk 1 v = true := fun {v} hv => by
  unfold stOk
  rw [isSl_cells hv, isSl_isU hv]
  simp only [all_cons, all_nil, isSl_one hv]
  rfl
 have ws := hst1 a2
 have wc := isSl_cells a2
 unfold Same5 at hQ
 simp only [q1, q6, q7, q8, q9, q10, q15] at e6 e7 e9 e10 e15 hQ
 unfold K12_9
 simp (disch := try exact dz) only [↓bxD, bA, simprocAttr]
 refine Wp_dreg_of (by omega) ?_
 have hpu : pushV M.lift (.sl M.n 0 1 0) (.cs false 1 (ofL [.i .i64 s] 0)) = some (.sl M.n 0 1 0, M.lift.push (.cs false 1 (ofL [.i .i64 s] 0))) := push_ok (Nat.le_refl _)
 have hdn : ∀ o, (M.lift.push o).down M.lo = M.push o := fun _ => rfl
 have ff : fillM [(0, 1, MV.i .i64 s)] [.i .i64 0] = some [.i .i64 s] := rfl
 have hnl : n < els.length := by omega
 simp (disch := try exact dz) only [↓bxD, bA, simprocAttr, e6, e7, e9, e10, sid_sl, soff_sl, g1, c1, yg, yC, ff, hpu, hdn]
 refine bindP_of a1 ?_
 simp (disch := try exact dz) only [↓bxD, bA, simprocAttr, sid_sl, soff_sl, g2, wc, hdn]
 generalize hM3 : M2.set id _ = M3 at h2 ⊢
 have n3 : M3.n = M2.n := by rw [← hM3]; rfl
 have l3 : M3.lo = M2.lo := by rw [← hM3]; rfl
 have o3 : ∀ j, j ≠ id → M3.get j = M2.get j := fun j hj => by rw [← hM3]; exact set_ne hj
 clear hM3
 have f13 : FrL lo hi M M3 := ⟨by omega, by omega, fun j hj hd => by
  have hjid : j ≠ id := fun e => by
   rcases hd with hd | ⟨hd, _⟩
   ·omega
   ·exact hd c (by rw [e]; exact g1)
  rw [o3 j hjid]
  exact fr j hj (hd.elim (fun h => .inl (by omega)) fun h => h.2)⟩
 obtain ⟨vi', v1', v2', id', c', w', M4, he', q1', g1', i1', i2', c1', b1', a1', a2', g2', a3', a4', fr', h4⟩ := h2.too (s := t) hn hnk (by omega) hlh (by omega) hl2
 injection q1' with q1' _ q2' _
 subst q1'
 have ws' := hst1 a2'
 have wc' := isSl_cells a2'
 have ff' : fillM [(0, 1, MV.i .i64 (t : Int))] [.i .i64 0] = some [.i .i64 (t : Int)] := rfl
 show Wp fns K12_8 _ _ _
 unfold K12_8
 simp (disch := try exact dz) only [↓bxD, bA, simprocAttr, e6, e7, e15, sid_sl, soff_sl, g1', c1', ff']
 refine bindP_of a1' ?_
 simp (disch := try exact dz) only [↓bxD, bA, simprocAttr, sid_sl, soff_sl, g2', wc']
 refine hQ _ _ _ ⟨by simp only [bA, reduceCtorEq], by simp only [bA, reduceCtorEq, e7], by simp only [bA, reduceCtorEq], by simp only [bA, reduceCtorEq, e9], by simp only [bA, reduceCtorEq, e10]⟩ (by simp only [bA, reduceCtorEq, e6]) (f13.trans ⟨by rw [set_n]; omega, by rw [set_lo]; omega, fun j hj hd => ?_⟩) h4
 have hjid : j ≠ id := fun e => by
  rcases hd with hd | ⟨hd, _⟩
  ·omega
  ·exact hd c' (by rw [e]; exact g1')
 rw [set_ne hjid]
 exact fr' j hj (hd.elim (fun h => .inl (by omega)) fun h => h.2)
theorem rstep {vn : MV} {N : Nat} (h : RSt lo hi M v6 ks els done (some a)) (hn : done.length = n) (hnk : n < ks.length) (hk : ks.length ≤ 5000) (hlo : M.lo ≤ lo) (hlh : lo ≤ hi) (hln : hi ≤ M.n) (hl1 : a.1.length ≤ 1000) (hl2 : a.2.length ≤ 1000) (hy : OwnRow 0 M 1 vy (ints sy)) (hyh : ∀ j, obj vy = some j → j < hi) (hs : sy[k]? = some s) (hvn : OwnRow lo M 2 vn (ivs (bitsOf N 576)))
  (e6 : X.ev f (.t q6) = v6) (e7 : X.ev f (.t q7) = .i .i64 (n : Int)) (e9 : X.ev f (.t q9) = vy) (e10 : X.ev f (.t q10) = .i .i64 (k : Int)) (e11 : X.ev f (.t q11) = vn) (e15 : X.ev f (.t q15) = .i .i64 (if N ∈ ks then ((ks.idxOf N : Nat) : Int) else Int.negSucc 0)) (Q : Post)
  (hQ1 : N ∉ ks → 2000 ≤ ks.length → ∀ f' : Fr, f'.get q2 = some .nils → f'.get q3 = some (.i .i64 3) → Q .ret f' M)
  (hQ2 : (N ∉ ks → ks.length < 2000) → ∀ f' M' v' els', Same5 f f' → X.ev f' (.t q6) = v' → FrL lo hi M M' → RSt lo hi M' v' (if N ∈ ks then ks else ks ++ [N]) els' done (some (a.1 ++ [s], a.2 ++ [ks.idxOf N])) → Q .norm f' M') : Wp fns K12_10 f M Q := by
 obtain ⟨s1, s2⟩ := h.r6.row.sl
 have hle := h.len
 rw [hle] at s2
 unfold Same5 at hQ2
 simp only [q1, q2, q3, q6, q7, q8, q9, q10, q11, q15] at e6 e7 e9 e10 e11 e15 hQ1 hQ2
 unfold K12_10
 by_cases hm : N ∈ ks
 ·rw [if_pos hm] at e15
  have d0 : decide (((ks.idxOf N : Nat) : Int) < 0) = false := decide_eq_false (by omega)
  simp (disch := try exact dz) only [↓bxD, bA, simprocAttr, e15, d0]
  show Wp fns K12_9 _ _ _
  refine rtail (t := ks.idxOf N) h hn hnk hlo hlh hln hl1 hl2 hy.row hs (by simp (disch := try exact dz) only [bA, simprocAttr, e6]) (by simp (disch := try exact dz) only [bA, simprocAttr, e7]) (by simp (disch := try exact dz) only [bA, simprocAttr, e9]) (by simp (disch := try exact dz) only [bA, simprocAttr, e10]) (by simp (disch := try exact dz) only [bA, simprocAttr, e15]) Q ?_
  intro f' M' els' ⟨k1, k7, k8, k9, k10⟩ k6 hfr hst
  simp only [q1, q6, q7, q8, q9, q10] at k1 k6 k7 k8 k9 k10
  refine hQ2 (fun h => absurd hm h) f' M' v6 els' ⟨k1.trans (by simp only [bA, reduceCtorEq]), k7.trans (by simp (disch := try exact dz) only [bA, simprocAttr, e7]), k8.trans (by simp only [bA, reduceCtorEq]), k9.trans (by simp (disch := try exact dz) only [bA, simprocAttr, e9]), k10.trans (by simp (disch := try exact dz) only [bA, simprocAttr, e10])⟩ k6 hfr ?_
  rw [if_pos hm]
  exact hst
 ·rw [if_neg hm] at e15
  have hix : ks.idxOf N = ks.length := List.idxOf_eq_length hm
  have d0 : decide (Int.negSucc 0 < 0) = true := rfl
  by_cases hbig : 2000 ≤ ks.length
  ·have d1 : decide ((2000 : Int) ≤ (ks.length : Int)) = true := decide_eq_true (by omega)
   simp (disch := try exact dz) only [↓bxD, bA, simprocAttr, e6, e15, d1, s2]
   exact hQ1 hm hbig _ (by simp (disch := try exact dz) only [bA, simprocAttr, get_set]) (by simp (disch := try exact dz) only [simprocAttr, get_set])
  ·have d1 : decide ((2000 : Int) ≤ (ks.length : Int)) = false := decide_eq_false (by omega)
   have hws := hvn.row.sl.1
   have ff1 : fillM [(0, 1, vn)] [.nils, .nils, .nils] = some [vn, .nils, .nils] := by cases vn <;> first | rfl | cases hws
   have ff2 : fillM [(0, 3, MV.ag [vn, .nils, .nils])] [.nils, .nils, .nils] = some [vn, .nils, .nils] := by cases vn <;> first | rfl | cases hws
   obtain ⟨v', M', m1, m2, m3, m4, m5, m6⟩ := h.more hlo (by omega) hvn hk (by omega)
   simp (disch := try exact dz) only [↓bxD, bA, simprocAttr, e6, e15, d1, s2]
   show Wp fns K12_7 _ _ _
   unfold K12_7
   simp (disch := try exact dz) only [↓bxD, bA, simprocAttr, e6, e11, s2, ff1, ff2]
   refine bindP_of m1 ?_
   simp (disch := try exact dz) only [↓bxD, bA, simprocAttr]
   show Wp fns K12_9 _ _ _
   have hidx : ∀ j, obj vy = some j → M'.get j = M.get j := fun j hj => by
    obtain ⟨_, o2, c, o3⟩ := own_obj hy hj
    exact m6 j o2 fun c' e => by rw [o3] at e; injection e with e; injection e with _ e; cases e
   have f1 : FrL lo hi M M' := ⟨m3, m4, fun j hj hd => hd.elim (fun hd => m5 j hj fun e => by have := (own_obj h.r6 e).1; omega) fun hd => m6 j hj hd.1⟩
   refine rtail (t := ks.length) m2 hn (by rw [List.length_append]; omega) (by omega) hlh (by omega) hl1 hl2 (own_keep hy m3 hidx).row hs (by simp only [bA, reduceCtorEq, e6]) (by simp (disch := try exact dz) only [bA, simprocAttr, e7]) (by simp (disch := try exact dz) only [bA, simprocAttr, e9]) (by simp (disch := try exact dz) only [bA, simprocAttr, e10]) (by simp only [bA, reduceCtorEq, e15] <;> rfl) Q ?_
   intro f' M2 els' ⟨k1, k7, k8, k9, k10⟩ k6 hfr hst
   simp only [q1, q6, q7, q8, q9, q10] at k1 k6 k7 k8 k9 k10
   refine hQ2 (fun _ => by omega) f' M2 v' els' ⟨k1.trans (by simp only [bA, reduceCtorEq]), k7.trans (by simp (disch := try exact dz) only [bA, simprocAttr, e7]), k8.trans (by simp only [bA, reduceCtorEq]), k9.trans (by simp (disch := try exact dz) only [bA, simprocAttr, e9]), k10.trans (by simp (disch := try exact dz) only [bA, simprocAttr, e10])⟩ k6 (f1.trans hfr) ?_
   rw [if_neg hm, hix]
   exact hst
end
end Go.Proofs.YtpdcahaggacacaaDoor.K
set_option linter.unusedSimpArgs false
set_option linter.unusedVariables false
namespace Go.Proofs.YtpdcahaggacacaaDoor.K
open Go Ev
set_option maxRecDepth 100000
set_option maxHeartbeats 4000000

def accS (g : Gr) (c ks : List Nat) (k : Nat) : Acc := ((symsP g c).take k).foldl (stepS g c) ⟨[], [], ks⟩
theorem accS_succ {g : Gr} {c ks : List Nat} {k : Nat} {s : Int} (h : (symsP g c)[k]? = some s) : accS g c ks (k + 1) = ⟨(accS g c ks k).syms ++ [s], (accS g c ks k).to ++ [(accS g c ks k).ks.idxOf (nextN g c s)], if nextN g c s ∈ (accS g c ks k).ks then (accS g c ks k).ks else (accS g c ks k).ks ++ [nextN g c s]⟩ := by
 have hne : nextN g c s ≠ 0 := by
  have := List.mem_of_getElem? h
  unfold symsP at this
  rw [List.mem_filter, decide_eq_true_iff] at this
  exact this.2
 unfold accS
 rw [List.take_add_one, h, List.foldl_append]
 exact step_one hne
theorem accS_all {g : Gr} {c ks : List Nat} : accS g c ks (symsP g c).length = leadP g c ks := by
 unfold accS leadP
 rw [List.take_length]
 exact steps_filter g c _ _
theorem accS_pre {g : Gr} {c ks : List Nat} (k : Nat) : (accS g c ks k).ks <+: (leadP g c ks).ks := by
 have : leadP g c ks = ((symsP g c).drop k).foldl (stepS g c) (accS g c ks k) := by
  unfold accS
  rw [← List.foldl_append, List.take_append_drop, ← accS_all]
  unfold accS
  rw [List.take_length]
 rw [this]
 exact steps_pre g c _ _
theorem accS_len {g : Gr} {c ks : List Nat} : ∀ k, k ≤ (symsP g c).length → (accS g c ks k).syms.length = k ∧ (accS g c ks k).to.length = k ∧ ks <+: (accS g c ks k).ks
 | 0, _ => ⟨rfl, rfl, List.prefix_refl _⟩
 | k + 1, h => by
  obtain ⟨s, hs⟩ : ∃ s, (symsP g c)[k]? = some s := ⟨_, List.getElem?_eq_getElem (by omega)⟩
  obtain ⟨a, b, d⟩ := accS_len (g := g) (c := c) (ks := ks) k (by omega)
  rw [accS_succ hs]
  refine ⟨by simp only [List.length_append, List.length_cons, List.length_nil]; omega, by simp only [List.length_append, List.length_cons, List.length_nil]; omega, ?_⟩
  show ks <+: (if _ then _ else _)
  split
  ·exact d
  ·exact d.trans (List.prefix_append _ _)
theorem rlead {B M : MH} {g : Gr} {vr vf vc vk va vy v6 : MV} {es els : List (List MV)} {c ks : List Nat} {done : List StR} {lo hi n A : Nat} {f : Fr} (hg : GrAt B vr vf vc vk es g) (hz : (formP g).2 = 0) (hx : Ext B M) (hBl : B.n ≤ lo) (hA : B.get A = some (.cs false 7 (ofL (gcs g vr vf vc vk) 0))) (hAn : A < B.n) (h : RSt lo hi M v6 ks els done (some ([], []))) (hn : done.length = n) (hnk : n < ks.length) (hk : ks.length ≤ 2000) (hB : ∀ N ∈ ks, Bits N) (hlo : M.lo ≤ lo) (hlh : lo ≤ hi) (hln : hi ≤ M.n)
  (hva : OwnRow 0 M 2 va (ivs c)) (hc : Ris c) (hcI : ∀ n ∈ c, IsN g n) (hcl : c.length ≤ 576) (hvy : OwnRow 0 M 1 vy (ints (symsP g c))) (hyh : ∀ j, obj vy = some j → j < hi)
  (e1 : X.ev f (.t q1) = .p A 0) (e6 : X.ev f (.t q6) = v6) (e7 : X.ev f (.t q7) = .i .i64 (n : Int)) (e8 : X.ev f (.t q8) = va) (e9 : X.ev f (.t q9) = vy) (e10 : X.ev f (.t q10) = .i .i64 0) (Q : Post)
  (hQ1 : 2000 < (leadP g c ks).ks.length → ∀ (f' : Fr) M', f'.get q2 = some .nils → f'.get q3 = some (.i .i64 3) → Ext B M' → Q .ret f' M')
  (hQ2 : (leadP g c ks).ks.length ≤ 2000 → ∀ f' M' v' els', X.ev f' (.t q1) = X.ev f (.t q1) → X.ev f' (.t q7) = X.ev f (.t q7) → X.ev f' (.t q6) = v' → FrL lo hi M M' → RSt lo hi M' v' (leadP g c ks).ks els' done (some ((leadP g c ks).syms, (leadP g c ks).to)) → Q .norm f' M') : Wp fns (.loop L12_14) f M (blockQ 2 Q) := by
 have hok := form_ok hz
 have h60 := hok.rl
 have hk40 := hok.k2
 have hn40 := hok.n2
 have hsl := symsP_len g c
 obtain ⟨y1, y2⟩ := hvy.row.sl
 rw [ints_len] at y2
 have hexB : ∀ {M' : MH}, FrL lo hi M M' → Ext B M' := fun k => ⟨Nat.le_trans hx.n k.n, k.l.trans hx.lo, fun j hj => (k.old j (Nat.lt_of_lt_of_le hj hx.n) (.inl (by omega))).trans (hx.old j hj)⟩
 simp only [q1, q2, q3, q6, q7, q8, q9, q10] at e1 e6 e7 e8 e9 e10 hQ1 hQ2
 refine Wp_inv (σ := Nat) (fun k f' M' => k ≤ (symsP g c).length ∧ FrL lo hi M M' ∧ X.ev f' (.t q1) = X.ev f (.t q1) ∧ X.ev f' (.t q7) = X.ev f (.t q7) ∧ X.ev f' (.t q8) = X.ev f (.t q8) ∧ X.ev f' (.t q9) = X.ev f (.t q9) ∧ X.ev f' (.t q10) = .i .i64 (k : Int) ∧ (accS g c ks k).ks.length ≤ 2000 ∧ (∀ N ∈ (accS g c ks k).ks, Bits N) ∧ ∃ v' els', X.ev f' (.t q6) = v' ∧ RSt lo hi M' v' (accS g c ks k).ks els' done (some ((accS g c ks k).syms, (accS g c ks k).to))) (fun k => (symsP g c).length - k) ?_ 0 ?_
 ·rintro k f' M1 ⟨hkl, hfr, k1, k7, k8, k9, k10, hk2, hB2, v', els', k6, hS⟩
  simp only [q1, q6, q7, q8, q9, q10] at k1 k6 k7 k8 k9 k10
  have j1 := k1.trans e1
  have j7 := k7.trans e7
  have j8 := k8.trans e8
  have j9 := k9.trans e9
  have fn := hfr.n
  have fl := hfr.l
  obtain ⟨al1, al2, al3⟩ := accS_len (g := g) (c := c) (ks := ks) k hkl
  have al3 := al3.length_le
  unfold L12_14
  by_cases hk' : k < (symsP g c).length
  ·have d0 : decide ((k : Int) < ((symsP g c).length : Int)) = true := decide_eq_true (by omega)
   obtain ⟨s, hs⟩ : ∃ s, (symsP g c)[k]? = some s := ⟨_, List.getElem?_eq_getElem hk'⟩
   have hsucc := accS_succ (ks := ks) hs
   have wi : wrapF .i64 ((k : Int) + 1) = ((k + 1 : Nat) : Int) := by rw [wrap_in (by omega) (by omega)]; omega
   have hexM1 := hexB hfr
   have keepA : ∀ {M' : MH}, FrL lo hi M M' → OwnRow 0 M' 2 va (ivs c) := fun kk => own_keep hva kk.n fun j hj => by
    obtain ⟨_, o2, cc, o3⟩ := own_obj hva hj
    exact kk.old j o2 (.inr ⟨fun c' e => (by rw [o3] at e; injection e with e; injection e with _ e; cases e), .inr fun c' e => (by rw [o3] at e; injection e with e; injection e with _ e; cases e)⟩)
   have keepY : ∀ {M' : MH}, FrL lo hi M M' → OwnRow 0 M' 1 vy (ints (symsP g c)) := fun kk => own_keep hvy kk.n fun j hj => by
    obtain ⟨_, o2, cc, o3⟩ := own_obj hvy hj
    exact kk.old j o2 (.inr ⟨fun c' e => (by rw [o3] at e; injection e with e; injection e with _ e; cases e), .inl (hyh j hj)⟩)
   have hgM1 := hg.ext hexM1
   have hAM1 := (hexM1.old A hAn).trans hA
   have hexn := hexM1.n
   simp (disch := try exact dz) only [↓bxD, bA, simprocAttr, j9, k10, y2, d0]
   show Wp fns K12_13 _ _ _
   unfold K12_13
   simp (disch := try exact dz) only [↓bxD, bA, simprocAttr]
   refine rnext hgM1 hz hAM1 (by omega) (keepA hfr).row hc hcI (by omega) (keepY hfr).row hs (by omega) (by simp (disch := try exact dz) only [bA, simprocAttr, j1]) (by simp (disch := try exact dz) only [bA, simprocAttr, j8]) (by simp (disch := try exact dz) only [bA, simprocAttr, j9]) (by simp (disch := try exact dz) only [bA, simprocAttr, k10]) (by simp only [bA, reduceCtorEq]) (by simp only [bA, reduceCtorEq] <;> rfl) _ ?_
   intro f2 M2 vn ⟨a1, a6, a7, a8, a9, a10⟩ a11 x2 hvn
   simp only [q1, q6, q7, q8, q9, q10, q11] at a1 a6 a7 a8 a9 a10 a11
   have b1 : X.ev f2 (.t (Ky.k1 Dg.d1)) = .p A 0 := a1.trans (by simp (disch := try exact dz) only [bA, simprocAttr, j1])
   have b6 : X.ev f2 (.t (Ky.k1 Dg.d6)) = v' := a6.trans (by simp (disch := try exact dz) only [bA, simprocAttr, k6])
   have b7 : X.ev f2 (.t (Ky.k1 Dg.d7)) = .i .i64 (n : Int) := a7.trans (by simp (disch := try exact dz) only [bA, simprocAttr, j7])
   have b8 : X.ev f2 (.t (Ky.k1 Dg.d8)) = va := a8.trans (by simp (disch := try exact dz) only [bA, simprocAttr, j8])
   have b9 : X.ev f2 (.t (Ky.k1 Dg.d9)) = vy := a9.trans (by simp (disch := try exact dz) only [bA, simprocAttr, j9])
   have b10 : X.ev f2 (.t (Ky.k1 Dg.d10)) = .i .i64 (k : Int) := a10.trans (by simp (disch := try exact dz) only [bA, simprocAttr, k10])
   have hfr2 : FrL lo hi M M2 := hfr.trans (.of x2)
   have hnb : bitsOf (nextN g c s) 576 = nextL g c s := bits_bs (ris_next hc) fun i hi => by have := (next_is hok hi).lt hok h60; omega
   rw [← hnb] at hvn
   have hNb : Bits (nextN g c s) := next_bits hok h60
   have n2 := x2.n
   have l2 := x2.lo
   show Wp fns K12_11 _ _ _
   unfold K12_11
   simp (disch := try exact dz) only [↓bxD, bA]
   refine rfind (h := hS.ext x2) (by omega) hB2 hNb hvn.row (by omega) (by simp (disch := try exact dz) only [bA, reduceCtorEq, b6]) (by simp (disch := try exact dz) only [bA, reduceCtorEq, a11]) (by simp only [bxP, bxQ, reduceCtorEq]) (by simp only [bxP, bxQ, reduceCtorEq] <;> rfl) _ ?_
   intro f3 M3 ⟨c1, c6, c7, c8, c9, c10⟩ c11 c15 x3
   simp only [q1, q6, q7, q8, q9, q10, q11, q15] at c1 c6 c7 c8 c9 c10 c11 c15
   have d1 : X.ev f3 (.t (Ky.k1 Dg.d1)) = .p A 0 := c1.trans (by simp (disch := try exact dz) only [bA, simprocAttr, b1])
   have d6 : X.ev f3 (.t (Ky.k1 Dg.d6)) = v' := c6.trans (by simp (disch := try exact dz) only [bA, simprocAttr, b6])
   have d7 : X.ev f3 (.t (Ky.k1 Dg.d7)) = .i .i64 (n : Int) := c7.trans (by simp (disch := try exact dz) only [bA, simprocAttr, b7])
   have d8 : X.ev f3 (.t (Ky.k1 Dg.d8)) = va := c8.trans (by simp (disch := try exact dz) only [bA, simprocAttr, b8])
   have d9 : X.ev f3 (.t (Ky.k1 Dg.d9)) = vy := c9.trans (by simp (disch := try exact dz) only [bA, simprocAttr, b9])
   have d10 : X.ev f3 (.t (Ky.k1 Dg.d10)) = .i .i64 (k : Int) := c10.trans (by simp (disch := try exact dz) only [bA, simprocAttr, b10])
   have d11 : X.ev f3 (.t (Ky.k1 Dg.d11)) = vn := c11.trans (by simp (disch := try exact dz) only [bA, simprocAttr, a11])
   have hfr3 : FrL lo hi M M3 := hfr2.trans (.of x3)
   have n3 := x3.n
   have l3 := x3.lo
   show Wp fns K12_10 _ _ _
   refine rstep (a := ((accS g c ks k).syms, (accS g c ks k).to)) ((hS.ext x2).ext x3) hn (by omega) (by omega) (by omega) hlh (by omega) (by show (accS g c ks k).syms.length ≤ 1000; omega) (by show (accS g c ks k).to.length ≤ 1000; omega) (keepY hfr3) hyh hs ((hvn.ext x3).le (by omega)) (by simpa only [q6] using d6) (by simpa only [q7] using d7) (by simpa only [q9] using d9) (by simpa only [q10] using d10) (by simpa only [q11] using d11) (by simpa only [q15] using c15) _ ?_ ?_
   ·intro hm hbig f4 r2 r3
    simp only [q2, q3] at r2 r3
    have hpre := (accS_pre (g := g) (c := c) (ks := ks) (k + 1)).length_le
    rw [hsucc] at hpre
    have hpre : (if nextN g c s ∈ (accS g c ks k).ks then (accS g c ks k).ks else (accS g c ks k).ks ++ [nextN g c s]).length ≤ (leadP g c ks).ks.length := hpre
    rw [if_neg hm, List.length_append] at hpre
    simp only [List.length_cons, List.length_nil] at hpre
    show Q .ret f4 M3
    exact hQ1 (by omega) f4 M3 r2 r3 (hexB hfr3)
   ·intro hsm f4 M4 v4 els4 ⟨g1, g7, g8, g9, g10⟩ g6 hfr4 hS4
    simp only [q1, q6, q7, q8, q9, q10] at g1 g6 g7 g8 g9 g10
    have h1 := g1.trans d1
    have h7 := g7.trans d7
    have h8 := g8.trans d8
    have h9 := g9.trans d9
    have h10 := g10.trans d10
    show Wp fns K12_12 _ _ _
    unfold K12_12
    simp (disch := try exact dz) only [↓bxD, bA, simprocAttr, h1, g6, h7, h8, h9, h10, e1, e7, e8, e9, wi]
    refine ⟨k + 1, by omega, by omega, hfr3.trans hfr4, rfl, ?_, ?_, v4, els4, rfl, ?_⟩
    ·rw [hsucc]
     show (if _ then _ else _ : List Nat).length ≤ 2000
     split
     ·exact hk2
     ·rename_i hm
      have := hsm hm
      rw [List.length_append]
      simp only [List.length_cons, List.length_nil]
      omega
    ·rw [hsucc]
     intro N hN
     have hN : N ∈ (if nextN g c s ∈ (accS g c ks k).ks then (accS g c ks k).ks else (accS g c ks k).ks ++ [nextN g c s]) := hN
     split at hN
     ·exact hB2 N hN
     ·rcases List.mem_append.1 hN with hN | hN
      ·exact hB2 N hN
      ·rw [List.mem_singleton.1 hN]; exact hNb
    ·rw [hsucc]
     exact hS4
  ·have hkl' : k = (symsP g c).length := by omega
   subst hkl'
   rw [accS_all] at hk2 hS
   have d0 : decide (((symsP g c).length : Int) < ((symsP g c).length : Int)) = false := decide_eq_false (by omega)
   simp (disch := try exact dz) only [↓bxD, bA, simprocAttr, j9, k10, y2, d0]
   exact hQ2 hk2 _ M1 v' els' (by simp (disch := try exact dz) only [bA, simprocAttr, j1, e1]) (by simp (disch := try exact dz) only [bA, simprocAttr, j7, e7]) (by simp (disch := try exact dz) only [bA, simprocAttr, k6]) hfr hS
 ·exact ⟨Nat.zero_le _, .refl _ _ _, by simp only [bA], by simp only [bA], by simp only [bA], by simp only [bA], by simp (disch := try exact dz) only [bA, simprocAttr, e10] <;> rfl, hk, hB, v6, els, by simp (disch := try exact dz) only [bA, simprocAttr, e6], h⟩
theorem rclose_any {M : MH} {g : Gr} {vr vf vc vk : MV} {es : List (List MV)} {v : MV} {l : List (Int × Int)} (h : GrAt M vr vf vc vk es g) (hv : RowAt M 2 v (prs l)) (hl : l.length ≤ 1000) (hlo : M.lo ≤ M.n) : Cp fns 10 [.ag (gcs g vr vf vc vk), v] M fun m M' => Ext M M' ∧ ∃ L, CloseV g l L ∧ OwnRow M.n M' 2 m (ivs L) := by
 obtain ⟨s1, s2⟩ := hv.sl
 rw [prs_len] at s2
 refine Cp_call (fn := F10) (by kernel_rfl) (Nat.le_of_ble_eq_true rfl) ?_
 show Wp fns B10 (T.set q1 (some v) (T.set q0 (some (.ag (gcs g vr vf vc vk))) T.lf)) M _
 unfold B10
 simp (disch := try exact dzq) only [↓bxD, bA, simprocAttr, g_len]
 generalize hM1 : M.push _ = M1
 have x1 : Ext M M1 := by rw [← hM1]; exact .push M _
 have g1 : M1.get M.n = some (.cs false 7 (ofL (gcs g vr vf vc vk) 0)) := by rw [← hM1]; exact push_new _
 have n1 : M1.n = M.n + 1 := by rw [← hM1]; rfl
 have l1 := x1.lo
 clear hM1
 simp (disch := try exact dzq) only [↓bxD, bA, simprocAttr, g_N]
 refine bindP_call (formed_any (h.ext x1) (by omega)) ?_
 rintro m M2 ⟨rfl, x2⟩
 have n2 := x2.n
 have l2 := x2.lo
 have g2 := (x2.old _ (by omega)).trans g1
 by_cases hz : (formP g).2 = 0
 ·have dz : decide ((formP g).2 = 0) = true := decide_eq_true hz
  have hok := form_ok hz
  have h60 := hok.rl
  have x12 := x1.trans x2
  have hri : ∀ i' r, g.rules[i']? = some r → i' < g.rules.length := fun i' r hr => (List.getElem?_eq_some_iff.1 hr).1
  simp (disch := try exact dzq) only [↓bxD, bA, simprocAttr, dz]
  show Wp fns K10_11 _ _ _
  unfold K10_11
  simp (disch := try exact dzq) only [↓bxD, bA, simprocAttr]
  refine Wp_inv (σ := Nat) (fun i f M' => i ≤ l.length ∧ X.ev f (.t q1) = v ∧ X.ev f (.t q2) = .p M.n 0 ∧ X.ev f (.t q5) = .nils ∧ X.ev f (.t q7) = .i .i64 (i : Int) ∧ ∃ w, X.ev f (.t q6) = w ∧ DSt M2 M' M2.n [] (its g (l.take i)) .nils w) (fun i => l.length - i) ?_ 0 ?_
  ·rintro i f M3 ⟨hi, k1, k2, k5, k7, w, k6, hD⟩
   simp only [q1, q2, q5, q6, q7] at k1 k2 k5 k6 k7
   have hx := x12.trans hD.ext
   have gA := (hD.ext.old M.n (by omega)).trans g2
   have xn := hx.n
   have xl := hx.lo
   have hbn := hD.bn
   unfold L10_3
   by_cases hi' : i < l.length
   ·have d0 : decide ((i : Int) < (l.length : Int)) = true := decide_eq_true (by omega)
    obtain ⟨x, hxi⟩ : ∃ x, l[i]? = some x := ⟨_, List.getElem?_eq_getElem hi'⟩
    obtain ⟨ro, sz, t, hg, hid, hC2⟩ := (hv.ext hx).read (prs_at hxi)
    have hN2 : Ev.getN t 2 (soff v + i * 2) = some [.i .i64 x.1, .i .i64 x.2] := hC2.getN
    have wi : wrapF .i64 ((i : Int) + 1) = ((i + 1 : Nat) : Int) := by rw [wrap_in (by omega) (by omega)]; omega
    simp (disch := try exact dzq) only [↓bxD, bA, simprocAttr, k1, k7, d0, s2]
    show Wp fns K10_2 _ _ _
    unfold K10_2
    simp (disch := try exact dzq) only [↓bxD, bA, simprocAttr]
    refine Wp_dreg_of (by omega) ?_
    simp (disch := try exact dzq) only [↓bxD, bA, simprocAttr, k1, k2, k7, hg, hN2, gA, g_N]
    refine bindP_call (item_any (h.ext hx) h60 (by omega)) ?_
    rintro m M4 ⟨x4, rfl⟩
    have n4 := x4.n
    have l4 := x4.lo
    have hg' := (x4.old _ hid).trans hg
    have hD4 := hD.grow x4
    cases hio : itemO g x.1 x.2 with
    | none =>
     simp (disch := try exact dzq) only [↓bxD, bA, simprocAttr, Option.isSome_none]
     show Wp fns K10_0 _ _ _
     unfold K10_0
     simp (disch := try exact dzq) only [↓bxD, bA, simprocAttr]
     show Wp fns K10_1 _ _ _
     unfold K10_1
     simp (disch := try exact dzq) only [↓bxD, bA, simprocAttr, k1, k2, k5, k6, k7, wi]
     refine ⟨i + 1, by omega, by omega, rfl, _, rfl, ?_⟩
     rw [its_take hxi, hio, Option.toList_none, List.append_nil]
     exact hD4
    | some b =>
     obtain ⟨hb, hbc⟩ := itemO_some hok hio
     have hb2 : fillM [(0, 2, MV.ag [MV.i .i64 x.1, MV.i .i64 x.2])] [.i .i64 0, .i .i64 0] = some (itc b) := by rw [hbc]; rfl
     simp (disch := try exact dzq) only [↓bxD, bA, simprocAttr, Option.isSome_some]
     show Wp fns K10_0 _ _ _
     unfold K10_0
     simp (disch := try exact dzq) only [↓bxD, bA, simprocAttr, k1, k6, k7, hg', hN2, hb2]
     have hil : (its g (l.take i)).length ≤ 1000 := by
      have := List.length_filterMap_le (fun x : Int × Int => itemO g x.1 x.2) (l.take i)
      rw [List.length_take] at this
      unfold its
      omega
     obtain ⟨v', M5, e1, hD5⟩ := (hD4.grow (.push M4 (.cs false 2 (ofL (itc b) 0)))).more (row_one (M := M4) (sz := 2) (e := itc b) rfl) (by omega) (by rw [push_lo]; omega)
     have hx5 := hD5.ext
     refine bindP_of e1 ?_
     simp (disch := try exact dzq) only [↓bxD, bA, simprocAttr]
     show Wp fns K10_1 _ _ _
     unfold K10_1
     simp (disch := try exact dzq) only [↓bxD, bA, simprocAttr, k1, k2, k5, k7, wi]
     refine ⟨i + 1, by omega, by omega, rfl, _, rfl, ?_⟩
     rw [its_take hxi, hio, Option.toList_some]
     exact hD5
   ·have hil : i = l.length := by omega
    subst hil
    rw [List.take_length] at hD
    have d0 : decide ((l.length : Int) < (l.length : Int)) = false := decide_eq_false (by omega)
    simp (disch := try exact dzq) only [↓bxD, bA, simprocAttr, k1, k7, d0, s2]
    show Wp fns (IC.seq (IC.block 2 (IC.loop L10_9)) K10_10) _ _ _
    have hSi : ∀ n, n ∈ its g l → IsN g n := fun n hn => its_is hok hn
    have hil : (its g l).length ≤ 1000 := by
     have := List.length_filterMap_le (fun x : Int × Int => itemO g x.1 x.2) l
     unfold its
     omega
    simp (disch := try exact dzq) only [↓bxD, simprocAttr]
    refine Wp_inv (σ := List Nat × List Nat) (fun s f M' => DInv g (fun n => n ∈ its g l) s.1 s.2 0 g.rules.length ∧ 61 * (549 - s.1.length) + s.2.length ≤ 40000 ∧ X.ev f (.t q2) = .p M.n 0 ∧ ∃ vo w, X.ev f (.t q5) = vo ∧ X.ev f (.t q6) = w ∧ DSt M2 M' M2.n s.1 s.2 vo w) (fun s => 61 * (549 - s.1.length) + s.2.length) ?_ ([], its g l) ?_
    ·clear hD k1 k2 k5 k6 k7 gA hx xn xl hbn
     rintro ⟨out, work⟩ f M3 ⟨hI, hms, k2, vo, w, k5, k6, hD⟩
     simp only at hI hms hD
     simp only [q2, q5, q6] at k2 k5 k6
     have hx := x12.trans hD.ext
     have gA := (hD.ext.old M.n (by omega)).trans g2
     have xn := hx.n
     have xl := hx.lo
     have hbn := hD.bn
     obtain ⟨o1, o2⟩ := hD.ro.sl
     rw [ivs_len] at o2
     obtain ⟨w1, w2⟩ := hD.qw.row.sl
     rw [ivs_len] at w2
     unfold L10_9
     cases work with
     | nil =>
      have w2 : slen w = 0 := w2
      have d0 : decide ((0 : Int) < ((0 : Nat) : Int)) = false := rfl
      simp (disch := try exact dzq) only [↓bxD, bA, reduceCtorEq, k6, w2, d0]
      show Wp fns K10_10 _ _ _
      unfold K10_10
      simp (disch := try exact dzq) only [↓bxD, bA, simprocAttr, k5]
      refine ⟨hx, out, .inr ⟨hz, bsOf out, .of_list hok h60 hSi (hI.fin hri), ?_⟩, hD.ow.le (by omega)⟩
      exact (bits_bs hI.ris fun n hn => by have := ((hI.sndO n hn).is hSi).lt hok h60; omega).symm
     | cons n work =>
      have w2 : slen w = work.length + 1 := w2
      have d0 : decide ((0 : Int) < ((work.length + 1 : Nat) : Int)) = true := decide_eq_true (by omega)
      have hnC := hI.sndW n List.mem_cons_self
      have hnI := hnC.is hSi
      have hn549 := hnI.lt hok h60
      have hms : 61 * (549 - out.length) + (work.length + 1) ≤ 40000 := hms
      obtain ⟨ro, sz, t, hg, hid, hN2, _, _⟩ := itc_read (i := 0) hD.qw.row (x := n) rfl
      rw [Nat.zero_mul, Nat.add_zero] at hN2
      have hst := @i_st n
      have c7 : Ev.getN (setN (itc n) 0 (ofL [.i .i64 0, .i .i64 0] 0)) 2 0 = some (itc n) := (at_setN _ _ _).getN
      have hc1 : cutM 2 w (some (.i .i64 1)) none = some (cutLo 2 1 w) := cutM_lo (l := 1) w1 (by omega)
      have hix : ixV 2 w (.i .i64 0) = some (.p (sid w) (soff w)) := by
       have := ix_sl (v := w) (s := 2) (k := .i64) (i := 0) w1 (by omega)
       rwa [Nat.zero_mul, Nat.add_zero] at this
      simp (disch := try exact dzq) only [↓bxD, bA, simprocAttr, k6, w2, d0]
      show Wp fns K10_8 _ _ _
      unfold K10_8
      simp (disch := try exact dzq) only [↓bxD, bA, simprocAttr, k5, k6, hg, hN2, hc1, hix, c7, Option.map_none, Option.map_some, o2]
      generalize hM4 : (M3.push _).set M3.n _ = M4
      have x4 : Ext M3 M4 := by rw [← hM4]; exact (Ext.push M3 _).set _ (Nat.le_refl _)
      have n4 : M4.n = M3.n + 1 := by rw [← hM4]; rfl
      have l4 := x4.lo
      have g8 : M4.get M3.n = some (.cs false 2 (setN (itc n) 0 (ofL [.i .i64 0, .i .i64 0] 0))) := by rw [← hM4, set_same]
      clear hM4
      have hD4 := hD.pop.grow x4
      have hol := ris_len hI.ris fun x hx => ((hI.sndO x hx).is hSi).lt hok h60
      refine bindP_call (put_any (p := n) (by omega) hD4.ro (by omega)) ?_
      rintro m1 M5 ⟨x5, hr5, ho5⟩
      have hD5 := hD4.put x5 hr5 ho5
      have n5 := x5.n
      have l5 := x5.lo
      have g8' := (x5.old _ (by omega)).trans g8
      have gA5 := ((x4.trans x5).old _ (by omega)).trans gA
      obtain ⟨p1, p2⟩ := hr5.sl
      rw [ivs_len] at p2
      have hil' := insN_len n hI.ris
      have him := insN_mem n out
      have hir := insN_ris n hI.ris
      simp (disch := try exact dzq) only [↓bxD, bA, simprocAttr, k2, gA5, g_N, g8', c7]
      refine bindP_call (rbehind_any (h.ext ((hx.trans x4).trans x5)) hnI (by omega) h60 (by omega)) ?_
      rintro m M6 ⟨x6, z, rfl, hzb⟩
      have n6 := x6.n
      have l6 := x6.lo
      have hD6 := hD5.grow x6
      have gA6 := (x6.old _ (by omega)).trans gA5
      obtain ⟨hr1, hr2⟩ := h.rules.row.sl
      rw [h.rules.len] at hr2
      by_cases hmem : n ∈ out
      ·rw [if_pos hmem] at hil'
       have d1 : decide (((insN n out).length : Int) = (out.length : Int)) = true := decide_eq_true (by rw [hil'])
       simp (disch := try exact dzq) only [↓bxD, bA, simprocAttr, k2, p2, d1]
       exact ⟨(insN n out, work), by simp only []; omega, hI.twice hir him hmem, by simp only; omega, _, _, rfl, rfl, hD6⟩
      rw [if_neg hmem] at hil'
      have d1 : decide (((insN n out).length : Int) = (out.length : Int)) = false := decide_eq_false (by omega)
      have hI2 := hI.take hri hir him hmem
      have hil2 := ris_len hir fun x hx => ((hI2.sndO x hx).is hSi).lt hok h60
      cases hb : behN g n with
      | none =>
       simp (disch := try exact dzq) only [↓bxD, bA, simprocAttr, k2, p2, d1, Option.isSome_none]
       exact ⟨(insN n out, work), by simp only []; omega, hI2.bare hok (fun s hs => by rw [hb] at hs; cases hs) 0 hri, by simp only; omega, _, _, rfl, rfl, hD6⟩
      | some s =>
       obtain rfl := hzb s hb
       by_cases hz0 : z < 0
       ·have d2 : decide (z < 0) = true := decide_eq_true hz0
        simp (disch := try exact dzq) only [↓bxD, bA, simprocAttr, k2, p2, d1, d2, Option.isSome_some]
        exact ⟨(insN n out, work), by simp only []; omega, hI2.bare hok (fun s hs => by rw [hb] at hs; injection hs with hs; omega) 0 hri, by simp only; omega, _, _, rfl, rfl, hD6⟩
       have d2 : decide (z < 0) = false := decide_eq_false hz0
       simp (disch := try exact dzq) only [↓bxD, bA, simprocAttr, p2, d1, d2, Option.isSome_some]
       show Wp fns K10_7 _ _ _
       unfold K10_7
       simp (disch := try exact dzq) only [↓bxD, bA, simprocAttr]
       refine Wp_inv (σ := Nat × List Nat) (fun s f M' => s.1 ≤ g.rules.length ∧ DInv g (fun n => n ∈ its g l) (insN n out) s.2 n s.1 ∧ s.2.length ≤ work.length + s.1 ∧ X.ev f (.t q2) = .p M.n 0 ∧ X.ev f (.t q5) = m1 ∧ X.ev f (.t q10) = .i .i64 z ∧ X.ev f (.t q12) = .i .i64 (s.1 : Int) ∧ ∃ w, X.ev f (.t q6) = w ∧ DSt M2 M' M2.n (insN n out) s.2 m1 w) (fun s => g.rules.length - s.1) ?_ (0, work) ?_
       ·clear k2 k5 k6
        rintro ⟨i, wk⟩ f M7 ⟨hi, hI3, hwl, k2, k5, k10, k12, w7, k6, hD7⟩
        simp only at hi hI3 hwl hD7 k12
        simp only [q2, q5, q6, q10, q12] at k2 k5 k6 k10 k12
        have hx7 := x12.trans hD7.ext
        have gA7 := (hD7.ext.old M.n (by omega)).trans g2
        have xn7 := hx7.n
        have xl7 := hx7.lo
        unfold L10_6
        by_cases hi' : i < g.rules.length
        ·have d0 : decide ((i : Int) < (g.rules.length : Int)) = true := decide_eq_true (by omega)
         obtain ⟨r, hr⟩ : ∃ r, g.rules[i]? = some r := ⟨_, List.getElem?_eq_getElem hi'⟩
         obtain ⟨ua, hu, hur⟩ := h.rules.get hr
         obtain ⟨ro, sz, t, hg, hid, hC2⟩ := (h.ext hx7).rules.row.read hu
         have hc0 : cget t (soff vr + i * 3) = some (.i .i64 r.1) := by have := hC2 0 _ rfl; simpa using this
         have wi : wrapF .i64 ((i : Int) + 1) = ((i + 1 : Nat) : Int) := by rw [wrap_in (by omega) (by omega)]; omega
         simp (disch := try exact dzq) only [↓bxD, bA, simprocAttr, k2, k12, d0, gA7, g_3', hr2]
         show Wp fns K10_5 _ _ _
         unfold K10_5
         simp (disch := try exact dzq) only [↓bxD, bA, simprocAttr, k2, k10, k12, gA7, g_3', hg, hc0]
         by_cases hrk : r.1 = z
         ·have d1 : decide (r.1 = z) = true := decide_eq_true hrk
          have hit : fillM [(0, 1, MV.i .i64 (i : Int))] [.i .i64 0, .i .i64 0] = some (itc ((i + 1) * 9)) := by
           unfold itc
           rw [show (i + 1) * 9 / 9 = i + 1 from by omega, show (i + 1) * 9 % 9 = 0 from by omega, show ((i + 1 : Nat) : Int) - 1 = (i : Int) from by omega]
           rfl
          have hb2 : fillM [(0, 2, MV.ag (itc ((i + 1) * 9)))] [.i .i64 0, .i .i64 0] = some (itc ((i + 1) * 9)) := rfl
          simp (disch := try exact dzq) only [↓bxD, bA, simprocAttr, k6, k12, d1, hit, hb2]
          have wkl : wk.length ≤ 100000 := by omega
          obtain ⟨v', M8, e1, hD8⟩ := (hD7.grow (.push M7 (.cs false 2 (ofL (itc ((i + 1) * 9)) 0)))).more (row_one (M := M7) (sz := 2) (e := itc ((i + 1) * 9)) rfl) (by omega) (by rw [push_lo]; omega)
          refine bindP_of e1 ?_
          simp (disch := try exact dzq) only [↓bxD, bA, simprocAttr, d1]
          show Wp fns K10_4 _ _ _
          unfold K10_4
          simp (disch := try exact dzq) only [↓bxD, bA, simprocAttr, k2, k5, k10, k12, wi]
          exact ⟨(i + 1, wk ++ [(i + 1) * 9]), by simp only; omega, by simp only; omega, hI3.rule hnC hb hr hrk, by simp only [List.length_append, List.length_cons, List.length_nil]; omega, rfl, _, rfl, hD8⟩
         ·have d1 : decide (r.1 = z) = false := decide_eq_false hrk
          simp (disch := try exact dzq) only [↓bxD, bA, simprocAttr, d1]
          show Wp fns K10_4 _ _ _
          unfold K10_4
          simp (disch := try exact dzq) only [↓bxD, bA, simprocAttr, k2, k5, k6, k10, k12, wi]
          exact ⟨(i + 1, wk), by simp only; omega, by simp only; omega, hI3.other hb (fun r' hr' => by rw [hr] at hr'; injection hr' with hr'; rw [← hr']; exact hrk), by simp only; omega, rfl, _, rfl, hD7⟩
        ·have hil : i = g.rules.length := by omega
         subst hil
         have d0 : decide ((g.rules.length : Int) < (g.rules.length : Int)) = false := decide_eq_false (by omega)
         simp (disch := try exact dzq) only [↓bxD, bA, simprocAttr, k2, k5, k6, k12, d0, gA7, g_3', hr2]
         exact ⟨(insN n out, wk), by simp only []; omega, hI3.any hri 0 _, by simp only; omega, _, _, rfl, rfl, hD7⟩
       ·exact ⟨Nat.zero_le _, hI2, Nat.le_add_right _ _, by simp only [bA, reduceCtorEq, k2], by simp only [bA, reduceCtorEq], by simp only [bA, reduceCtorEq], by simp only [bA, reduceCtorEq] <;> rfl, _, by simp only [bA, reduceCtorEq], hD6⟩
    ·exact ⟨DInv.start (fun n => Iff.rfl) 0 _, by simp only [List.length_nil]; omega, by simp (disch := try exact dzq) only [bA, simprocAttr, k2], .nils, w, by simp (disch := try exact dzq) only [bA, simprocAttr, k5], by simp (disch := try exact dzq) only [bA, simprocAttr, k6], hD⟩
  ·refine ⟨Nat.zero_le _, by simp only [bA, reduceCtorEq], by simp only [bA, reduceCtorEq], by simp only [bA, reduceCtorEq], by simp only [bA, reduceCtorEq] <;> rfl, .nils, by simp only [bA, reduceCtorEq], ⟨.refl _, Nat.le_refl _, Nat.le_refl _, ⟨fun e he => (by cases he), .inl ⟨rfl, rfl⟩⟩, OwnRow.nil _ _ _, ⟨fun e he => (by cases he), .inl ⟨rfl, rfl⟩⟩, fun a b n d _ _ _ _ e => by cases e⟩⟩
 ·have dz : decide ((formP g).2 = 0) = false := decide_eq_false hz
  simp (disch := try exact dzq) only [↓bxD, bA, simprocAttr, dz]
  exact ⟨x1.trans x2, [], .inl ⟨hz, rfl⟩, OwnRow.nil _ _ _⟩
def setMb (F : List (List Bool)) (a t : Nat) (b : Bool) : List (List Bool) := F.set a ((F.getD a []).set t b)
theorem setMb_at {F : List (List Bool)} {a t K : Nat} {b : Bool} (ha : a < F.length) (hs : ∀ x ∈ F, x.length = K) (ht : t < K) (i u : Nat) : mAt (setMb F a t b) i u = if i = a ∧ u = t then b else mAt F i u := by
 have hl : F[a]? = some F[a] := List.getElem?_eq_getElem ha
 have hFa : F.getD a [] = F[a] := by rw [List.getD_eq_getElem?_getD, hl]; rfl
 have hsz := hs _ (List.getElem_mem ha)
 unfold mAt setMb
 rw [List.getD_eq_getElem?_getD, List.getElem?_set]
 by_cases e : a = i
 ·subst e
  rw [if_pos rfl, if_pos ha, Option.getD_some, bAt_set (by rw [hFa]; omega), hFa]
  by_cases e2 : t = u
  ·subst e2; rw [if_pos rfl, if_pos ⟨rfl, rfl⟩]
  ·rw [if_neg e2, if_neg (fun h => e2 h.2.symm)]
 ·rw [if_neg e, if_neg (fun h => e h.1.symm), List.getD_eq_getElem?_getD]
theorem MatOwn.put {M : MH} {lo id : Nat} {ids : List Nat} {F : List (List Bool)} {K : Nat} (h : MatOwn M lo id ids F K) {a j t : Nat} (hj : ids[a]? = some j) (ht : t < K) :
  ∃ c, M.get j = some (.cs false 1 c) ∧ (∀ u, u < K → cget c (u * 1) = some (.b (mAt F a u))) ∧ hasB c 1 (t * 1) = true ∧ ∀ b, MatOwn (M.set j (some (.cs false 1 (setN [.b b] (t * 1) c)))) lo id ids (setMb F a t b) K := by
 have ha : a < ids.length := (List.getElem?_eq_some_iff.1 hj).1
 have haF : a < F.length := by rw [← h.len]; exact ha
 have hl : F[a]? = some F[a] := List.getElem?_eq_getElem haF
 have hFa : F.getD a [] = F[a] := by rw [List.getD_eq_getElem?_getD, hl]; rfl
 have hsz := h.size _ (List.getElem_mem haF)
 obtain ⟨c, c1, c2, c3, c4⟩ := (h.rows a j _ hj hl).read
 have hjm := List.mem_of_getElem? hj
 obtain ⟨n1, n2, n3⟩ := h.ne j hjm
 refine ⟨c, c1, fun u hu => ?_, c3 t (by rw [hsz]; exact ht), fun b => ?_⟩
 ·unfold mAt
  rw [hFa]
  exact c2 u _ (bAt_at (by rw [hsz]; exact hu))
 ·obtain ⟨tt, t1, t2⟩ := h.top
  refine ⟨⟨tt, by rw [set_ne (Ne.symm n1)]; exact t1, t2⟩, by unfold setMb; rw [List.length_set]; exact h.len, fun i j' l hj' hl' => ?_, fun x hx => ?_, h.ne, h.idl, h.inj⟩
  ·unfold setMb at hl'
   rw [List.getElem?_set] at hl'
   by_cases e : a = i
   ·subst e
    rw [if_pos rfl, if_pos haF] at hl'
    injection hl' with hl'
    subst hl'
    rw [hj] at hj'
    injection hj' with hj'
    subst hj'
    rw [hFa]
    exact ⟨_, set_same _ _, c4 t b (by rw [hsz]; exact ht)⟩
   ·rw [if_neg e] at hl'
    have hne : j ≠ j' := fun e2 => e (h.inj a i j hj (by rw [e2]; exact hj'))
    exact (h.rows i j' l hj' hl').same (by rw [set_ne (Ne.symm hne)])
  ·unfold setMb at hx
   rcases List.mem_or_eq_of_mem_set hx with h1 | h1
   ·exact h.size x h1
   ·rw [h1, List.length_set, hFa]; exact hsz
def alV (N : List Bool) (l : List Int) (k j : Nat) : Bool := decide (0 ≤ l.getD k (-1)) && (List.range j).all fun i => decide (i = k) || oneN N (l.getD i (-1))
theorem alV_zero (N : List Bool) (l : List Int) (k : Nat) : alV N l k 0 = decide (0 ≤ l.getD k (-1)) := by unfold alV; simp
theorem alV_succ (N : List Bool) (l : List Int) (k j : Nat) : alV N l k (j + 1) = (alV N l k j && (decide (j = k) || oneN N (l.getD j (-1)))) := by
 unfold alV
 rw [List.range_succ, List.all_append, Bool.and_assoc]
 simp
theorem alV_stop {N : List Bool} {l : List Int} {k j : Nat} (h : alV N l k j = false) : ∀ d, alV N l k (j + d) = false
 | 0 => h
 | d + 1 => by
  have := alV_stop h d
  rw [← Nat.add_assoc, alV_succ, this, Bool.false_and]
theorem alV_all {N : List Bool} {l : List Int} {k : Nat} {z : Int} (hk : l[k]? = some z) : alV N l k l.length = (decide (0 ≤ z) && stayN N l k) := by
 have hkl := (List.getElem?_eq_some_iff.1 hk).1
 have hg : l.getD k (-1) = z := by rw [List.getD_eq_getElem?_getD, hk]; rfl
 have e : ((List.range l.length).all fun i => decide (i = k) || oneN N (l.getD i (-1))) = stayN N l k := by
  rw [Bool.eq_iff_iff, List.all_eq_true]
  unfold stayN
  rw [Bool.and_eq_true]
  unfold allN
  rw [List.all_eq_true, List.all_eq_true]
  constructor
  ·intro h
   refine ⟨fun s hs => ?_, fun s hs => ?_⟩
   ·obtain ⟨i, hi⟩ := List.getElem?_of_mem hs
    have hil := (List.getElem?_eq_some_iff.1 hi).1
    rw [List.length_take] at hil
    rw [List.getElem?_take] at hi
    split at hi
    ·have := h i (List.mem_range.2 (by omega))
     rw [decide_eq_false (by omega), Bool.false_or, List.getD_eq_getElem?_getD, hi] at this
     exact this
    ·cases hi
   ·obtain ⟨i, hi⟩ := List.getElem?_of_mem hs
    have hil := (List.getElem?_eq_some_iff.1 hi).1
    rw [List.length_drop] at hil
    rw [List.getElem?_drop] at hi
    have := h (k + 1 + i) (List.mem_range.2 (by omega))
    rw [decide_eq_false (by omega), Bool.false_or, List.getD_eq_getElem?_getD, hi] at this
    exact this
  ·rintro ⟨h1, h2⟩ i hi
   have hi := List.mem_range.1 hi
   have hx := List.getElem?_eq_getElem hi
   rw [List.getD_eq_getElem?_getD, hx]
   by_cases e1 : i = k
   ·rw [decide_eq_true e1, Bool.true_or]
   ·rw [decide_eq_false e1, Bool.false_or]
    by_cases e2 : i < k
    ·refine h1 _ (List.mem_of_getElem? (i := i) ?_)
     rw [List.getElem?_take, if_pos e2]
     exact hx
    ·refine h2 _ (List.mem_of_getElem? (i := i - (k + 1)) ?_)
     rw [List.getElem?_drop, show k + 1 + (i - (k + 1)) = i from by omega]
     exact hx
 unfold alV
 rw [hg, e]
structure CyF (f : Fr) (n0 nn id i n8 k : Nat) (vn : MV) : Prop where
 h1 : X.ev f (.t q1) = .p n0 0
 h3 : X.ev f (.t q3) = vn
 h4 : X.ev f (.t q4) = .i .i64 (nn : Int)
 h5 : X.ev f (.t q5) = .sl id 0 nn 0
 h7 : X.ev f (.t q7) = .i .i64 (i : Int)
 h8 : X.ev f (.t q8) = .p n8 0
 h9 : X.ev f (.t q9) = .i .i64 (k : Int)
theorem cyc_in {M : MH} {f : Fr} {n0 nn id i n8 k : Nat} {vn ur : MV} {N : List Bool} {ar : List Int} {c : T MV} (h : CyF f n0 nn id i n8 k vn) (hb : M.get n8 = some (.cs false 3 c)) (c1 : cget c 1 = some ur) (hu : IntRow M ur ar) (hN : BRow M vn N) (hs : ∀ s ∈ ar, 0 ≤ s → s.toNat < N.length) (hl : ar.length ≤ 8) (hk : k < ar.length)
  (h10 : X.ev f (.t q10) = .b (alV N ar k 0)) (h11 : X.ev f (.t q11) = .i .i64 0) (Q : Post) (hn : ∀ f', CyF f' n0 nn id i n8 k vn → X.ev f' (.t q10) = .b (alV N ar k ar.length) → Q .norm f' M) : Wp fns (.loop L42_5) f M (blockQ 6 Q) := by
 obtain ⟨u1, u2⟩ := hu.sl
 obtain ⟨n1, n2⟩ := hN.sl
 refine Wp_inv (σ := Nat) (fun j f' M' => M' = M ∧ j ≤ ar.length ∧ CyF f' n0 nn id i n8 k vn ∧ X.ev f' (.t q10) = .b (alV N ar k j) ∧ X.ev f' (.t q11) = .i .i64 (j : Int)) (fun j => ar.length - j) ?_ 0 ?_
 ·clear h h10 h11
  rintro j f M' ⟨rfl, hj, h, h10, h11⟩
  have g1 := h.h1
  have g3 := h.h3
  have g4 := h.h4
  have g5 := h.h5
  have g7 := h.h7
  have g8 := h.h8
  have g9 := h.h9
  simp only [q1, q3, q4, q5, q7, q8, q9, q10, q11] at g1 g3 g4 g5 g7 g8 g9 h10 h11
  unfold L42_5
  by_cases hj' : j < ar.length
  ·have d1 : decide ((j : Int) < (ar.length : Int)) = true := decide_eq_true (by omega)
   cases ha : alV N ar k j with
   | false =>
    rw [ha] at h10
    have hfin : alV N ar k ar.length = false := by
     have := alV_stop ha (ar.length - j)
     rwa [show j + (ar.length - j) = ar.length from by omega] at this
    simp (disch := try exact dz) only [↓bxD, bA, simprocAttr, g8, h10, h11, hb, c1, u2, d1]
    exact hn _ ⟨by simp only [bA, reduceCtorEq, g1], by simp only [bA, reduceCtorEq, g3], by simp only [bA, reduceCtorEq, g4], by simp only [bA, reduceCtorEq, g5], by simp only [bA, reduceCtorEq, g7], by simp only [bA, reduceCtorEq, g8], by simp only [bA, reduceCtorEq, g9]⟩ (by rw [hfin]; simp (disch := try exact dz) only [bA, simprocAttr, h10])
   | true =>
    rw [ha] at h10
    obtain ⟨z, hz⟩ : ∃ z, ar[j]? = some z := ⟨_, List.getElem?_eq_getElem hj'⟩
    have hgd : ar.getD j (-1) = z := by rw [List.getD_eq_getElem?_getD, hz]; rfl
    obtain ⟨ro, s, t, hg, hid, hC⟩ := hu.read hz
    have hsucc := alV_succ N ar k j
    rw [ha, hgd, Bool.true_and] at hsucc
    have wj : wrapF .i64 ((j : Int) + 1) = ((j + 1 : Nat) : Int) := by rw [wrap_in (by omega) (by omega)]; omega
    have fin : ∀ f', X.ev f' (.t (Ky.k1 Dg.d11)) = .i .i64 ((j + 1 : Nat) : Int) → True := fun _ _ => trivial
    by_cases e : j = k
    ·have d2 : decide ((j : Int) = (k : Int)) = true := decide_eq_true (by omega)
     rw [decide_eq_true e, Bool.true_or] at hsucc
     simp (disch := try exact dz) only [↓bxD, bA, simprocAttr, g8, h10, h11, hb, c1, u2, d1]
     show Wp fns K42_4 _ _ _
     unfold K42_4
     simp (disch := try exact dz) only [↓bxD, bA, simprocAttr, g9, h11, d2]
     show Wp fns K42_3 _ _ _
     unfold K42_3
     simp (disch := try exact dz) only [↓bxD, bA, simprocAttr, h11, wj]
     exact ⟨j + 1, by omega, by omega, ⟨by simp only [bA, reduceCtorEq, g1], by simp only [bA, reduceCtorEq, g3], by simp only [bA, reduceCtorEq, g4], by simp only [bA, reduceCtorEq, g5], by simp only [bA, reduceCtorEq, g7], by simp only [bA, reduceCtorEq, g8], by simp only [bA, reduceCtorEq, g9]⟩, by rw [hsucc], rfl⟩
    ·have d2 : decide ((j : Int) = (k : Int)) = false := decide_eq_false (by omega)
     rw [decide_eq_false e, Bool.false_or] at hsucc
     by_cases z0 : 0 ≤ z
     ·have d3 : decide (0 ≤ z) = true := decide_eq_true z0
      obtain ⟨zn, rfl⟩ : ∃ n : Nat, z = n := ⟨z.toNat, by omega⟩
      have hzN := hs _ (List.mem_of_getElem? hz) z0
      rw [Int.toNat_natCast] at hzN
      rw [oneN_at] at hsucc
      obtain ⟨ro2, s2, t2, hg2, hid2, hC2⟩ := hN.read hzN
      simp (disch := try exact dz) only [↓bxD, bA, simprocAttr, g8, h10, h11, hb, c1, u2, d1]
      show Wp fns K42_4 _ _ _
      unfold K42_4
      simp (disch := try exact dz) only [↓bxD, bA, simprocAttr, g3, g8, g9, h11, hb, c1, d2, d3, hg, hC, hg2, hC2]
      show Wp fns K42_3 _ _ _
      unfold K42_3
      simp (disch := try exact dz) only [↓bxD, bA, simprocAttr, h11, wj]
      exact ⟨j + 1, by omega, by omega, ⟨by simp only [bA, reduceCtorEq, g1], by simp only [bA, reduceCtorEq, g3], by simp only [bA, reduceCtorEq, g4], by simp only [bA, reduceCtorEq, g5], by simp only [bA, reduceCtorEq, g7], by simp only [bA, reduceCtorEq, g8], by simp only [bA, reduceCtorEq, g9]⟩, by rw [hsucc], rfl⟩
     ·have d3 : decide (0 ≤ z) = false := decide_eq_false z0
      have hone : oneN N z = false := by unfold oneN; rw [d3, Bool.false_and]
      rw [hone] at hsucc
      simp (disch := try exact dz) only [↓bxD, bA, simprocAttr, g8, h10, h11, hb, c1, u2, d1]
      show Wp fns K42_4 _ _ _
      unfold K42_4
      simp (disch := try exact dz) only [↓bxD, bA, simprocAttr, g8, g9, h11, hb, c1, d2, d3, hg, hC]
      show Wp fns K42_3 _ _ _
      unfold K42_3
      simp (disch := try exact dz) only [↓bxD, bA, simprocAttr, h11, wj]
      exact ⟨j + 1, by omega, by omega, ⟨by simp only [bA, reduceCtorEq, g1], by simp only [bA, reduceCtorEq, g3], by simp only [bA, reduceCtorEq, g4], by simp only [bA, reduceCtorEq, g5], by simp only [bA, reduceCtorEq, g7], by simp only [bA, reduceCtorEq, g8], by simp only [bA, reduceCtorEq, g9]⟩, by rw [hsucc], rfl⟩
  ·have d1 : decide ((j : Int) < (ar.length : Int)) = false := decide_eq_false (by omega)
   obtain rfl : j = ar.length := by omega
   simp (disch := try exact dz) only [↓bxD, bA, simprocAttr, g8, h11, hb, c1, u2, d1]
   exact hn _ ⟨by simp only [bA, reduceCtorEq, g1], by simp only [bA, reduceCtorEq, g3], by simp only [bA, reduceCtorEq, g4], by simp only [bA, reduceCtorEq, g5], by simp only [bA, reduceCtorEq, g7], by simp only [bA, reduceCtorEq, g8], by simp only [bA, reduceCtorEq, g9]⟩ (by simp only [bA, reduceCtorEq, h10])
 ·exact ⟨rfl, Nat.zero_le _, h, h10, h11⟩
structure CCx (Mb : MH) (g : Gr) (vr vf vc vk : MV) (es : List (List MV)) (n0 nn : Nat) (vn : MV) (N : List Bool) : Prop where
 gr : GrAt Mb vr vf vc vk es g
 ok : GrOk g
 box : Mb.get n0 = some (.cs false 7 (ofL (gcs g vr vf vc vk) 0))
 n0lt : n0 < Mb.n
 lo : Mb.lo ≤ Mb.n
 nul : NulVec g N
 nrow : BRow Mb vn N
 hn : g.names = nn
structure CMt (Mb M : MH) (nn id : Nat) (ids : List Nat) (F : List (List Bool)) : Prop where
 ext : Ext Mb M
 mat : MatOwn M Mb.n id ids F nn
 len : F.length = nn
theorem CMt.step {Mb M M' : MH} {nn id : Nat} {ids : List Nat} {F : List (List Bool)} (h : CMt Mb M nn id ids F) (k : Ext M M') : CMt Mb M' nn id ids F := ⟨h.ext.trans k, h.mat.ext k, h.len⟩
def RelC (N : List Bool) (g : Gr) (i k : Nat) (a : Nat) (ar : List Int) (F : List (List Bool)) (nn : Nat) : Prop := ∀ x y, x < nn → y < nn → mAt F x y = (cyB N (g.rules.take i) x y || (decide (a = x) && aloneB N ar k y))
theorem cyc_row {Mb M : MH} {g : Gr} {vr vf vc vk : MV} {es : List (List MV)} {n0 nn : Nat} {vn : MV} {N : List Bool} (cx : CCx Mb g vr vf vc vk es n0 nn vn N) {id : Nat} {ids : List Nat} {F : List (List Bool)} (h : CMt Mb M nn id ids F) {f : Fr} {i n8 a : Nat} {ur x2 : MV} {ar : List Int} {c : T MV} (hr : M.get n8 = some (.cs false 3 c)) (hC : At c 0 [.i .i64 (a : Int), ur, x2]) (h8n : ∀ j ∈ ids, j ≠ n8) (h8i : id ≠ n8) (h8l : n8 < M.n) (hu : IntRow Mb ur ar) (hsy : ∀ s ∈ ar, symB g s = true) (hl : ar.length ≤ 8) (ha : a < nn)
  (hR : RelC N g i 0 a ar F nn) (hf : CyF f n0 nn id i n8 0 vn) (Q : Post) (hn : ∀ f' M' F' k, CMt Mb M' nn id ids F' → CyF f' n0 nn id i n8 k vn → RelC N g i ar.length a ar F' nn → Q .norm f' M') : Wp fns (.loop L42_9) f M (blockQ 4 Q) := by
 obtain ⟨u1, u2⟩ := hu.sl
 have c0 : cget c 0 = some (.i .i64 (a : Int)) := hC 0 _ rfl
 have c1 : cget c 1 = some ur := hC 1 _ rfl
 have hlo := cx.lo
 have hok := cx.ok
 have hnn := cx.hn
 have hn40 := hok.n2
 have hNl : N.length = nn := by rw [cx.nul.1]; omega
 have hsl : ∀ s ∈ ar, 0 ≤ s → s.toNat < nn := fun s hs h0 => by
  have := symB_lt (hsy s hs) h0
  omega
 refine Wp_inv (σ := Nat × List (List Bool)) (fun s f' M' => s.1 ≤ ar.length ∧ CMt Mb M' nn id ids s.2 ∧ M'.get n8 = some (.cs false 3 c) ∧ n8 < M'.n ∧ RelC N g i s.1 a ar s.2 nn ∧ CyF f' n0 nn id i n8 s.1 vn) (fun s => ar.length - s.1) ?_ (0, F) ?_
 ·clear h hr hR hf h8l
  rintro ⟨k, F⟩ f M ⟨hk, h, hr, h8l, hR, hf⟩
  simp only at hk h hR hf
  have g1 := hf.h1
  have g3 := hf.h3
  have g4 := hf.h4
  have g5 := hf.h5
  have g7 := hf.h7
  have g8 := hf.h8
  have g9 := hf.h9
  simp only [q1, q3, q4, q5, q7, q8, q9] at g1 g3 g4 g5 g7 g8 g9
  have hx := h.ext
  have xn := hx.n
  have xl := hx.lo
  unfold L42_9
  by_cases hk' : k < ar.length
  ·have d1 : decide ((k : Int) < (ar.length : Int)) = true := decide_eq_true (by omega)
   obtain ⟨z, hz⟩ : ∃ z, ar[k]? = some z := ⟨_, List.getElem?_eq_getElem hk'⟩
   obtain ⟨ro, s, t, hg, hid, hCz⟩ := (hu.ext hx).read hz
   have hgd : ar.getD k (-1) = z := by rw [List.getD_eq_getElem?_getD, hz]; rfl
   simp (disch := try exact dz) only [↓bxD, bA, simprocAttr, g8, g9, hr, c1, u2, d1]
   show Wp fns K42_8 _ _ _
   unfold K42_8
   simp (disch := try exact dz) only [↓bxD, bA, simprocAttr, g8, g9, hr, c1, hg, hCz]
   refine cyc_in (n0 := n0) (nn := nn) (id := id) (i := i) (n8 := n8) (k := k) (vn := vn) (N := N) (ar := ar) (c := c) ?_ hr c1 (hu.ext hx) (cx.nrow.ext hx) (fun s hs h0 => by rw [hNl]; exact hsl s hs h0) hl hk' ?_ ?_ _ ?_
   ·exact ⟨by simp only [bA, reduceCtorEq, g1], by simp only [bA, reduceCtorEq, g3], by simp only [bA, reduceCtorEq, g4], by simp only [bA, reduceCtorEq, g5], by simp only [bA, reduceCtorEq, g7], by simp only [bA, reduceCtorEq, g8], by simp only [bA, reduceCtorEq, g9]⟩
   ·rw [alV_zero, hgd]
    simp (disch := try exact dz) only [bA, simprocAttr]
   ·simp only [bA, reduceCtorEq] <;> rfl
   intro f2 hf2 h10
   rw [alV_all hz] at h10
   have g1 := hf2.h1
   have g3 := hf2.h3
   have g4 := hf2.h4
   have g5 := hf2.h5
   have g7 := hf2.h7
   have g8 := hf2.h8
   have g9 := hf2.h9
   simp only [q1, q3, q4, q5, q7, q8, q9, q10] at g1 g3 g4 g5 g7 g8 g9 h10
   have hstep : ∀ F', (∀ x y, x < nn → y < nn → mAt F' x y = (mAt F x y || (decide (a = x) && (decide (ar[k]? = some (y : Int)) && stayN N ar k)))) → RelC N g i (k + 1) a ar F' nn := fun F' e x y hx hy => by
    rw [e x y hx hy, hR x y hx hy, aloneB_succ, Bool.and_or_distrib_left, Bool.or_assoc]
   cases hb : decide (0 ≤ z) && stayN N ar k with
   | false =>
    rw [hb] at h10
    show Wp fns K42_6 _ _ _
    unfold K42_6
    simp (disch := try exact dz) only [↓bxD, bA, simprocAttr, h10]
    show Wp fns K42_7 _ _ _
    unfold K42_7
    simp (disch := try exact dz) only [↓bxD, bA, simprocAttr, g9]
    refine ⟨(k + 1, F), by simp only; omega, by simp only; omega, h, hr, h8l, hstep F fun x y hx hy => ?_, ⟨by simp only [bA, reduceCtorEq, g1], by simp only [bA, reduceCtorEq, g3], by simp only [bA, reduceCtorEq, g4], by simp only [bA, reduceCtorEq, g5], by simp only [bA, reduceCtorEq, g7], by simp only [bA, reduceCtorEq, g8], by simp only [bA, reduceCtorEq, g9] <;> rfl⟩⟩
    cases hst : stayN N ar k with
    | false => simp
    | true =>
     rw [hst, Bool.and_true] at hb
     simp only [decide_eq_false_iff_not] at hb
     have hd : decide (some z = some (y : Int)) = false := decide_eq_false fun e => by injection e with e; omega
     rw [hz, hd]
     simp
   | true =>
    rw [hb] at h10
    simp only [Bool.and_eq_true, decide_eq_true_eq] at hb
    obtain ⟨z0, hst⟩ := hb
    obtain ⟨zn, rfl⟩ : ∃ n : Nat, z = n := ⟨z.toNat, by omega⟩
    have hzn := hsl _ (List.mem_of_getElem? hz) z0
    rw [Int.toNat_natCast] at hzn
    obtain ⟨tt, tt1, tt2⟩ := h.mat.topr
    have hil : ids.length = nn := h.mat.len.trans h.len
    obtain ⟨j, hj⟩ : ∃ j, ids[a]? = some j := ⟨_, List.getElem?_eq_getElem (by omega)⟩
    have hjm := List.mem_of_getElem? hj
    obtain ⟨jn1, jn2, jn3⟩ := h.mat.ne j hjm
    have hT := tt2 a j hj
    obtain ⟨cj, cj1, cj2, cj3, cj4⟩ := MatOwn.put h.mat hj hzn
    show Wp fns K42_6 _ _ _
    unfold K42_6
    simp (disch := try exact dz) only [↓bxD, bA, simprocAttr, h10]
    refine Wp_dreg_of (by omega) ?_
    simp (disch := try exact dz) only [↓bxD, bA, simprocAttr, g5, g8, g9, hr, c0, c1, hg, hCz, tt1, hT, cj1, ix_slc]
    show Wp fns K42_7 _ _ _
    unfold K42_7
    simp (disch := try exact dz) only [↓bxD, bA, simprocAttr, g9]
    refine ⟨(k + 1, setMb F a zn true), by simp only; omega, by simp only; omega, ⟨hx.set _ (by omega), cj4 true, by unfold setMb; rw [List.length_set]; exact h.len⟩, by rw [set_ne (Ne.symm (h8n j hjm))]; exact hr, h8l, hstep _ fun x y hx' hy => ?_, ⟨by simp only [bA, reduceCtorEq, g1], by simp only [bA, reduceCtorEq, g3], by simp only [bA, reduceCtorEq, g4], by simp only [bA, reduceCtorEq, g5], by simp only [bA, reduceCtorEq, g7], by simp only [bA, reduceCtorEq, g8], by simp only [bA, reduceCtorEq, g9] <;> rfl⟩⟩
    rw [setMb_at (by rw [h.len]; exact ha) h.mat.size hzn, hst, Bool.and_true, hz]
    by_cases e1 : x = a
    ·subst e1
     by_cases e2 : y = zn
     ·subst e2
      rw [if_pos ⟨rfl, rfl⟩]; simp
     ·have hd : decide (some (zn : Int) = some (y : Int)) = false := decide_eq_false fun e => by injection e with e; omega
      rw [if_neg (fun e => e2 e.2), hd]; simp
    ·rw [if_neg (fun e => e1 e.1), decide_eq_false (show ¬ a = x from fun e => e1 e.symm)]; simp
  ·have d1 : decide ((k : Int) < (ar.length : Int)) = false := decide_eq_false (by omega)
   obtain rfl : k = ar.length := by omega
   simp (disch := try exact dz) only [↓bxD, bA, simprocAttr, g8, g9, hr, c1, u2, d1]
   exact hn _ _ F ar.length h ⟨by simp only [bA, reduceCtorEq, g1], by simp only [bA, reduceCtorEq, g3], by simp only [bA, reduceCtorEq, g4], by simp only [bA, reduceCtorEq, g5], by simp only [bA, reduceCtorEq, g7], by simp only [bA, reduceCtorEq, g8], by simp only [bA, reduceCtorEq, g9]⟩ hR
 ·exact ⟨Nat.zero_le _, h, hr, h8l, hR, hf⟩
def RelW (U : Nat → Nat → Bool) (k i j : Nat) (F : List (List Bool)) (nn : Nat) : Prop := ∀ x y, x < nn → y < nn → mAt F x y = if x < i ∨ (x = i ∧ y < j) then cyW U k x y else U x y
theorem RelW.here {U : Nat → Nat → Bool} {k i j nn : Nat} {F : List (List Bool)} (h : RelW U k i j F nn) (hi : i < nn) (hj : j < nn) : mAt F i j = U i j := by
 rw [h i j hi hj, if_neg (by omega)]
theorem RelW.to {U : Nat → Nat → Bool} {k i j nn : Nat} {F : List (List Bool)} (h : RelW U k i j F nn) (hi : i < nn) (hk : k < nn) : mAt F i k = U i k := by
 rw [h i k hi hk]
 split
 ·exact cyW_to _ _ _
 ·rfl
theorem RelW.via {U : Nat → Nat → Bool} {k i j nn : Nat} {F : List (List Bool)} (h : RelW U k i j F nn) (hk : k < nn) (hj : j < nn) : mAt F k j = U k j := by
 rw [h k j hk hj]
 split
 ·exact cyW_via _ _ _
 ·rfl
theorem RelW.step {U : Nat → Nat → Bool} {k i j nn : Nat} {F : List (List Bool)} (h : RelW U k i j F nn) (hl : F.length = nn) (hs : ∀ x ∈ F, x.length = nn) (hi : i < nn) (hj : j < nn) {b : Bool} (hb : b = cyW U k i j) : RelW U k i (j + 1) (setMb F i j b) nn := fun x y hx hy => by
 rw [setMb_at (by omega) hs hj]
 by_cases e : x = i ∧ y = j
 ·rw [if_pos e, if_pos (by omega), hb, e.1, e.2]
 ·rw [if_neg e, h x y hx hy]
  by_cases e2 : x < i ∨ (x = i ∧ y < j)
  ·rw [if_pos e2, if_pos (by omega)]
  ·rw [if_neg e2, if_neg (by omega)]
structure CyG (f : Fr) (nn id k i : Nat) : Prop where
 h4 : X.ev f (.t q4) = .i .i64 (nn : Int)
 h5 : X.ev f (.t q5) = .sl id 0 nn 0
 h12 : X.ev f (.t q12) = .i .i64 (k : Int)
 h13 : X.ev f (.t q13) = .i .i64 (i : Int)
theorem cyc_j {Mb M : MH} {nn id k i : Nat} {ids : List Nat} {F : List (List Bool)} {U : Nat → Nat → Bool} (hlo : Mb.lo ≤ Mb.n) (hn40 : nn ≤ 40) (h : CMt Mb M nn id ids F) {f : Fr} (hf : CyG f nn id k i) (hk : k < nn) (hi : i < nn) (hR : RelW U k i 0 F nn) (h14 : X.ev f (.t q14) = .i .i64 0) (Q : Post) (hn : ∀ f' M' F', CMt Mb M' nn id ids F' → CyG f' nn id k i → RelW U k i nn F' nn → Q .norm f' M') : Wp fns (.loop L42_15) f M (blockQ 12 Q) := by
 refine Wp_inv (σ := Nat × List (List Bool)) (fun s f' M' => s.1 ≤ nn ∧ CMt Mb M' nn id ids s.2 ∧ RelW U k i s.1 s.2 nn ∧ CyG f' nn id k i ∧ X.ev f' (.t q14) = .i .i64 (s.1 : Int)) (fun s => nn - s.1) ?_ (0, F) ?_
 ·clear h hf hR h14
  rintro ⟨j, F⟩ f M ⟨hj, h, hR, hf, h14⟩
  simp only at hj h hR h14
  have g4 := hf.h4
  have g5 := hf.h5
  have g12 := hf.h12
  have g13 := hf.h13
  simp only [q4, q5, q12, q13, q14] at g4 g5 g12 g13 h14
  have hx := h.ext
  have xn := hx.n
  have xl := hx.lo
  have hFl := h.len
  unfold L42_15
  by_cases hj' : j < nn
  ·have d1 : decide ((j : Int) < (nn : Int)) = true := decide_eq_true (by omega)
   obtain ⟨tt, tt1, tt2⟩ := h.mat.topr
   have hil : ids.length = nn := h.mat.len.trans h.len
   obtain ⟨ji, hji⟩ : ∃ j, ids[i]? = some j := ⟨_, List.getElem?_eq_getElem (by omega)⟩
   obtain ⟨jk, hjk⟩ : ∃ j, ids[k]? = some j := ⟨_, List.getElem?_eq_getElem (by omega)⟩
   obtain ⟨jn1, jn2, jn3⟩ := h.mat.ne ji (List.mem_of_getElem? hji)
   have hTi := tt2 i ji hji
   have hTk := tt2 k jk hjk
   obtain ⟨ci, ci1, ci2, ci3, ci4⟩ := MatOwn.put h.mat hji hj'
   obtain ⟨ck, ck1, ck2, ck3, ck4⟩ := MatOwn.put h.mat hjk hj'
   have a1 := ci2 j hj'
   have a2 := ci2 k hk
   have a3 := ck2 j hj'
   rw [hR.here hi hj'] at a1
   rw [hR.to hi hk] at a2
   rw [hR.via hk hj'] at a3
   have fin : ∀ b, b = cyW U k i j → ∀ f', CyG f' nn id k i → X.ev f' (.t q14) = .i .i64 ((j + 1 : Nat) : Int) → ∃ s' : Nat × List (List Bool), nn - s'.1 < nn - j ∧ s'.1 ≤ nn ∧ CMt Mb (M.set ji (some (.cs false 1 (setN [.b b] (j * 1) ci)))) nn id ids s'.2 ∧ RelW U k i s'.1 s'.2 nn ∧ CyG f' nn id k i ∧ X.ev f' (.t q14) = .i .i64 (s'.1 : Int) := fun b hb f' k1 k2 => ⟨(j + 1, setMb F i j b), by simp only; omega, by simp only; omega, ⟨hx.set _ jn2, ci4 b, by unfold setMb; rw [List.length_set]; exact h.len⟩, hR.step hFl h.mat.size hi hj' hb, k1, k2⟩
   cases b1 : U i j with
   | true =>
    rw [b1] at a1
    simp (disch := try exact dz) only [↓bxD, bA, simprocAttr, g4, h14, d1]
    show Wp fns K42_14 _ _ _
    unfold K42_14
    simp (disch := try exact dz) only [↓bxD, bA, simprocAttr]
    refine Wp_dreg_of (by omega) ?_
    simp (disch := try exact dz) only [↓bxD, bA, simprocAttr, g5, g13, h14, tt1, hTi, ci1, a1, ix_slc]
    show Wp fns K42_13 _ _ _
    unfold K42_13
    simp (disch := try exact dz) only [↓bxD, bA, simprocAttr, h14]
    refine fin true (by unfold cyW; rw [b1]; rfl) _ ⟨by simp only [bA, reduceCtorEq, g4], by simp only [bA, reduceCtorEq, g5], by simp only [bA, reduceCtorEq, g12], by simp only [bA, reduceCtorEq, g13]⟩ (by simp only [bA, reduceCtorEq, h14] <;> rfl)
   | false =>
    rw [b1] at a1
    cases b2 : U i k with
    | true =>
     rw [b2] at a2
     simp (disch := try exact dz) only [↓bxD, bA, simprocAttr, g4, h14, d1]
     show Wp fns K42_14 _ _ _
     unfold K42_14
     simp (disch := try exact dz) only [↓bxD, bA, simprocAttr]
     refine Wp_dreg_of (by omega) ?_
     simp (disch := try exact dz) only [↓bxD, bA, simprocAttr, g5, g12, g13, h14, tt1, hTi, hTk, ci1, ck1, a1, a2, a3, ix_slc]
     show Wp fns K42_13 _ _ _
     unfold K42_13
     simp (disch := try exact dz) only [↓bxD, bA, simprocAttr, h14]
     refine fin (U k j) (by unfold cyW; rw [b1, b2]; rfl) _ ⟨by simp only [bA, reduceCtorEq, g4], by simp only [bA, reduceCtorEq, g5], by simp only [bA, reduceCtorEq, g12], by simp only [bA, reduceCtorEq, g13]⟩ (by simp only [bA, reduceCtorEq, h14] <;> rfl)
    | false =>
     rw [b2] at a2
     simp (disch := try exact dz) only [↓bxD, bA, simprocAttr, g4, h14, d1]
     show Wp fns K42_14 _ _ _
     unfold K42_14
     simp (disch := try exact dz) only [↓bxD, bA, simprocAttr]
     refine Wp_dreg_of (by omega) ?_
     simp (disch := try exact dz) only [↓bxD, bA, simprocAttr, g5, g12, g13, h14, tt1, hTi, ci1, a1, a2, ix_slc]
     show Wp fns K42_13 _ _ _
     unfold K42_13
     simp (disch := try exact dz) only [↓bxD, bA, simprocAttr, h14]
     refine fin false (by unfold cyW; rw [b1, b2]; rfl) _ ⟨by simp only [bA, reduceCtorEq, g4], by simp only [bA, reduceCtorEq, g5], by simp only [bA, reduceCtorEq, g12], by simp only [bA, reduceCtorEq, g13]⟩ (by simp only [bA, reduceCtorEq, h14] <;> rfl)
  ·have d1 : decide ((j : Int) < (nn : Int)) = false := decide_eq_false (by omega)
   obtain rfl : j = nn := by omega
   simp (disch := try exact dz) only [↓bxD, bA, simprocAttr, g4, h14, d1]
   exact hn _ _ F h ⟨by simp only [bA, reduceCtorEq, g4], by simp only [bA, reduceCtorEq, g5], by simp only [bA, reduceCtorEq, g12], by simp only [bA, reduceCtorEq, g13]⟩ hR
 ·exact ⟨Nat.zero_le _, h, hR, hf, h14⟩
theorem cyc_i {Mb M : MH} {nn id k : Nat} {ids : List Nat} {F : List (List Bool)} {U : Nat → Nat → Bool} (hlo : Mb.lo ≤ Mb.n) (hn40 : nn ≤ 40) (h : CMt Mb M nn id ids F) {f : Fr} (hf : CyG f nn id k 0) (hk : k < nn) (hR : ∀ x y, x < nn → y < nn → mAt F x y = U x y) (Q : Post) (hn : ∀ f' M' F' i, CMt Mb M' nn id ids F' → CyG f' nn id k i → (∀ x y, x < nn → y < nn → mAt F' x y = cyW U k x y) → Q .norm f' M') : Wp fns (.loop L42_18) f M (blockQ 10 Q) := by
 refine Wp_inv (σ := Nat × List (List Bool)) (fun s f' M' => s.1 ≤ nn ∧ CMt Mb M' nn id ids s.2 ∧ RelW U k s.1 0 s.2 nn ∧ CyG f' nn id k s.1) (fun s => nn - s.1) ?_ (0, F) ?_
 ·clear h hf hR
  rintro ⟨i, F⟩ f M ⟨hi, h, hR, hf⟩
  simp only at hi h hR hf
  have g4 := hf.h4
  have g5 := hf.h5
  have g12 := hf.h12
  have g13 := hf.h13
  simp only [q4, q5, q12, q13] at g4 g5 g12 g13
  unfold L42_18
  by_cases hi' : i < nn
  ·have d1 : decide ((i : Int) < (nn : Int)) = true := decide_eq_true (by omega)
   simp (disch := try exact dz) only [↓bxD, bA, simprocAttr, g4, g13, d1]
   show Wp fns K42_17 _ _ _
   unfold K42_17
   simp (disch := try exact dz) only [↓bxD, bA, simprocAttr]
   refine cyc_j hlo hn40 h (k := k) (i := i) (U := U) ⟨by simp only [bA, reduceCtorEq, g4], by simp only [bA, reduceCtorEq, g5], by simp only [bA, reduceCtorEq, g12], by simp only [bA, reduceCtorEq, g13]⟩ hk hi' hR (by simp only [bA, reduceCtorEq] <;> rfl) _ ?_
   intro f2 M2 F2 h2 hf2 hR2
   have k4 := hf2.h4
   have k5 := hf2.h5
   have k12 := hf2.h12
   have k13 := hf2.h13
   simp only [q4, q5, q12, q13] at k4 k5 k12 k13
   show Wp fns K42_16 _ _ _
   unfold K42_16
   simp (disch := try exact dz) only [↓bxD, bA, simprocAttr, k13]
   refine ⟨(i + 1, F2), by simp only; omega, by simp only; omega, h2, fun x y hx hy => ?_, ⟨by simp (disch := try exact dz) only [bA, simprocAttr, k4], by simp (disch := try exact dz) only [bA, simprocAttr, k5], by simp (disch := try exact dz) only [bA, simprocAttr, k12], by simp (disch := try exact dz) only [bA, simprocAttr] <;> rfl⟩⟩
   simp only
   rw [hR2 x y hx hy]
   by_cases e : x < i ∨ (x = i ∧ y < nn)
   ·rw [if_pos e, if_pos (by omega)]
   ·rw [if_neg e, if_neg (by omega)]
  ·have d1 : decide ((i : Int) < (nn : Int)) = false := decide_eq_false (by omega)
   obtain rfl : i = nn := by omega
   simp (disch := try exact dz) only [↓bxD, bA, simprocAttr, g4, g13, d1]
   exact hn _ _ F i h ⟨by simp only [bA, reduceCtorEq, g4], by simp only [bA, reduceCtorEq, g5], by simp only [bA, reduceCtorEq, g12], by simp only [bA, reduceCtorEq, g13]⟩ fun x y hx hy => by rw [hR x y hx hy, if_pos (.inl hx)]
 ·exact ⟨Nat.zero_le _, h, fun x y hx hy => by simp only; rw [hR x y hx hy, if_neg (by omega)], hf⟩
theorem cyc_k {Mb M : MH} {nn id i : Nat} {ids : List Nat} {F : List (List Bool)} {U : Nat → Nat → Bool} (hlo : Mb.lo ≤ Mb.n) (hn40 : nn ≤ 40) (h : CMt Mb M nn id ids F) {f : Fr} (h4 : X.ev f (.t q4) = .i .i64 (nn : Int)) (h5 : X.ev f (.t q5) = .sl id 0 nn 0) (h12 : X.ev f (.t q12) = .i .i64 0) (hR : ∀ x y, x < nn → y < nn → mAt F x y = U x y) (Q : Post) (hn : ∀ f' M' F', CMt Mb M' nn id ids F' → X.ev f' (.t q4) = .i .i64 (nn : Int) → X.ev f' (.t q5) = .sl id 0 nn 0 → (∀ x y, x < nn → y < nn → mAt F' x y = cyIt U nn x y) → Q .norm f' M') : Wp fns (.loop L42_21) f M (blockQ 8 Q) := by
 refine Wp_inv (σ := Nat × List (List Bool)) (fun s f' M' => s.1 ≤ nn ∧ CMt Mb M' nn id ids s.2 ∧ (∀ x y, x < nn → y < nn → mAt s.2 x y = cyIt U s.1 x y) ∧ X.ev f' (.t q4) = .i .i64 (nn : Int) ∧ X.ev f' (.t q5) = .sl id 0 nn 0 ∧ X.ev f' (.t q12) = .i .i64 (s.1 : Int)) (fun s => nn - s.1) ?_ (0, F) ?_
 ·clear h h4 h5 h12 hR
  rintro ⟨k, F⟩ f M ⟨hk, h, hR, h4, h5, h12⟩
  simp only at hk h hR h12
  simp only [q4, q5, q12] at h4 h5 h12
  unfold L42_21
  by_cases hk' : k < nn
  ·have d1 : decide ((k : Int) < (nn : Int)) = true := decide_eq_true (by omega)
   simp (disch := try exact dz) only [↓bxD, bA, simprocAttr, h4, h12, d1]
   show Wp fns K42_20 _ _ _
   unfold K42_20
   simp (disch := try exact dz) only [↓bxD, bA, simprocAttr]
   refine cyc_i hlo hn40 h (k := k) (U := cyIt U k) ⟨by simp only [bA, reduceCtorEq, h4], by simp only [bA, reduceCtorEq, h5], by simp only [bA, reduceCtorEq, h12], by simp only [bA, reduceCtorEq] <;> rfl⟩ hk' hR _ ?_
   intro f2 M2 F2 i2 h2 hf2 hR2
   have k4 := hf2.h4
   have k5 := hf2.h5
   have k12 := hf2.h12
   simp only [q4, q5, q12] at k4 k5 k12
   show Wp fns K42_19 _ _ _
   unfold K42_19
   simp (disch := try exact dz) only [↓bxD, bA, simprocAttr, k4, k5, k12]
   exact ⟨(k + 1, F2), by simp only; omega, by simp only; omega, h2, hR2, rfl⟩
  ·have d1 : decide ((k : Int) < (nn : Int)) = false := decide_eq_false (by omega)
   obtain rfl : k = nn := by omega
   simp (disch := try exact dz) only [↓bxD, bA, simprocAttr, h4, h12, d1]
   exact hn _ _ F h (by simp only [bA, reduceCtorEq, h4]) (by simp only [bA, reduceCtorEq, h5]) hR
 ·exact ⟨Nat.zero_le _, h, hR, h4, h5, h12⟩
structure CyH (f : Fr) (n0 nn id i : Nat) (vn : MV) : Prop where
 h1 : X.ev f (.t q1) = .p n0 0
 h3 : X.ev f (.t q3) = vn
 h4 : X.ev f (.t q4) = .i .i64 (nn : Int)
 h5 : X.ev f (.t q5) = .sl id 0 nn 0
 h7 : X.ev f (.t q7) = .i .i64 (i : Int)
theorem cyc_rules {Mb M : MH} {g : Gr} {vr vf vc vk : MV} {es : List (List MV)} {n0 nn : Nat} {vn : MV} {N : List Bool} (cx : CCx Mb g vr vf vc vk es n0 nn vn N) {id : Nat} {ids : List Nat} {F : List (List Bool)} (h : CMt Mb M nn id ids F) {f : Fr} (hf : CyH f n0 nn id 0 vn) (hR : ∀ x y, x < nn → y < nn → mAt F x y = false) (Q : Post) (hn : ∀ f' M' F' i, CMt Mb M' nn id ids F' → CyH f' n0 nn id i vn → (∀ x y, x < nn → y < nn → mAt F' x y = cyB N g.rules x y) → Q .norm f' M') : Wp fns (.loop L42_12) f M (blockQ 2 Q) := by
 obtain ⟨hr1, hr2⟩ := cx.gr.rules.row.sl
 rw [cx.gr.rules.len] at hr2
 have hlo := cx.lo
 have hok := cx.ok
 have hrl := hok.rl
 have hnn := cx.hn
 have hn0 := cx.n0lt
 refine Wp_inv (σ := Nat × List (List Bool)) (fun s f' M' => s.1 ≤ g.rules.length ∧ CMt Mb M' nn id ids s.2 ∧ (∀ x y, x < nn → y < nn → mAt s.2 x y = cyB N (g.rules.take s.1) x y) ∧ CyH f' n0 nn id s.1 vn) (fun s => g.rules.length - s.1) ?_ (0, F) ?_
 ·clear h hf hR
  rintro ⟨i, F⟩ f M4 ⟨hi, h, hR, hf⟩
  simp only at hi h hR hf
  have g1 := hf.h1
  have g3 := hf.h3
  have g4 := hf.h4
  have g5 := hf.h5
  have g7 := hf.h7
  simp only [q1, q3, q4, q5, q7] at g1 g3 g4 g5 g7
  have hx := h.ext
  have xn := hx.n
  have xl := hx.lo
  have hbox := (hx.old _ cx.n0lt).trans cx.box
  have cg3 : cget (ofL (gcs g vr vf vc vk) 0) 3 = some vr := (at_ofL (gcs g vr vf vc vk)) 3 _ rfl
  unfold L42_12
  by_cases hi' : i < g.rules.length
  ·have d1 : decide ((i : Int) < (g.rules.length : Int)) = true := decide_eq_true (by omega)
   obtain ⟨x, hz⟩ : ∃ x, g.rules[i]? = some x := ⟨_, List.getElem?_eq_getElem hi'⟩
   have hmem := List.mem_of_getElem? hz
   have hleft := hok.left _ hmem
   have hsym := hok.sym _ hmem
   have hlen8 := hok.len _ hmem
   obtain ⟨a0, ar, a2⟩ := x
   simp only at hleft hsym hlen8
   obtain ⟨a, rfl⟩ : ∃ n : Nat, a0 = n := ⟨a0.toNat, by omega⟩
   obtain ⟨ua, hua, hura⟩ : ∃ u1, es[i]? = some [.i .i64 (a : Int), u1, .i .i64 a2] ∧ IntRow Mb u1 ar := cx.gr.rules.get hz
   obtain ⟨hsu1, hsu2⟩ := hura.sl
   obtain ⟨ro, s, t, hg, hid, hat⟩ := (cx.gr.ext hx).rules.row.read hua
   have hN : Ev.getN t 3 (soff vr + i * 3) = some [.i .i64 (a : Int), ua, .i .i64 a2] := hat.getN
   have hst : stOk 3 (.ag [.i .i64 (a : Int), ua, .i .i64 a2]) = true := by cases ua <;> first | rfl | cases hsu1
   simp (disch := try exact dzq) only [↓bxD, bA, simprocAttr, g1, g7, hbox, cg3, hr2, d1]
   show Wp fns K42_11 _ _ _
   unfold K42_11
   simp (disch := try exact dzq) only [↓bxD, bA, simprocAttr, g1, g7, hbox, cg3, hg, hN]
   generalize hM5 : (M4.push _).set M4.n _ = M5
   have x5 : Ext M4 M5 := by rw [← hM5]; exact (Ext.push M4 _).set _ (Nat.le_refl _)
   have n5 : M5.n = M4.n + 1 := by rw [← hM5]; rfl
   have l5 := x5.lo
   have g9 : M5.get M4.n = some (.cs false 3 (setN [.i .i64 (a : Int), ua, .i .i64 a2] 0 (ofL [.i .i64 0, .nils, .i .i64 0] 0))) := by rw [← hM5, set_same]
   have c9 : At (setN [.i .i64 (a : Int), ua, .i .i64 a2] 0 (ofL [.i .i64 0, .nils, .i .i64 0] 0)) 0 [.i .i64 (a : Int), ua, .i .i64 a2] := at_setN _ _ _
   generalize setN [.i .i64 (a : Int), ua, .i .i64 a2] 0 (ofL [.i .i64 0, .nils, .i .i64 0] 0) = cc at g9 c9
   clear hM5
   have hidl := h.mat.idl
   refine cyc_row cx (h.step x5) (i := i) (n8 := M4.n) (a := a) (ar := ar) (c := cc) g9 c9 (fun j hj => ?_) (by omega) (by omega) hura hsym hlen8 (by omega) (fun x y hx hy => ?_) ⟨by simp only [bA, reduceCtorEq, g1], by simp only [bA, reduceCtorEq, g3], by simp only [bA, reduceCtorEq, g4], by simp only [bA, reduceCtorEq, g5], by simp only [bA, reduceCtorEq, g7], by simp only [bA, reduceCtorEq], by simp only [bA, reduceCtorEq] <;> rfl⟩ _ ?_
   ·have := (h.mat.ne j hj).2.2
    omega
   ·rw [hR x y hx hy]
    simp [aloneB]
   intro f2 M6 F2 k2 h2 hf2 hR2
   have k1 := hf2.h1
   have k3 := hf2.h3
   have k4 := hf2.h4
   have k5 := hf2.h5
   have k7 := hf2.h7
   simp only [q1, q3, q4, q5, q7] at k1 k3 k4 k5 k7
   show Wp fns K42_10 _ _ _
   unfold K42_10
   simp (disch := try exact dzq) only [↓bxD, bA, simprocAttr, k7]
   refine ⟨(i + 1, F2), by simp only; omega, by simp only; omega, h2, fun x y hx hy => ?_, ⟨by simp (disch := try exact dzq) only [bA, simprocAttr, k1], by simp (disch := try exact dzq) only [bA, simprocAttr, k3], by simp (disch := try exact dzq) only [bA, simprocAttr, k4], by simp (disch := try exact dzq) only [bA, simprocAttr, k5], by simp (disch := try exact dzq) only [bA, simprocAttr] <;> rfl⟩⟩
   simp only
   rw [hR2 x y hx hy, cyB_take hz]
   congr 2
   rw [decide_eq_decide]
   simp only
   omega
  ·have d1 : decide ((i : Int) < (g.rules.length : Int)) = false := decide_eq_false (by omega)
   obtain rfl : i = g.rules.length := by omega
   rw [List.take_length] at hR
   simp (disch := try exact dzq) only [↓bxD, bA, simprocAttr, g1, g7, hbox, cg3, hr2, d1]
   exact hn _ _ F g.rules.length h ⟨by simp only [bA, reduceCtorEq, g1], by simp only [bA, reduceCtorEq, g3], by simp only [bA, reduceCtorEq, g4], by simp only [bA, reduceCtorEq, g5], by simp only [bA, reduceCtorEq, g7]⟩ hR
 ·exact ⟨Nat.zero_le _, h, fun x y hx hy => by simp only; rw [hR x y hx hy]; rfl, hf⟩
theorem set_mid {α : Type} (a b : List α) (x y : α) (n : Nat) (h : a.length = n) (hb : b = List.replicate b.length y) (hl : 0 < b.length) : (a ++ b).set n x = (a ++ [x]) ++ List.replicate (b.length - 1) y := by
 cases b with
 | nil => simp at hl
 | cons z b =>
  rw [List.set_append_right _ _ (by omega), ← h, Nat.sub_self, List.set_cons_zero]
  simp only [List.length_cons, Nat.add_sub_cancel, List.append_assoc, List.singleton_append]
  rw [List.length_cons, List.replicate_succ] at hb
  injection hb with _ hb
  rw [← hb]
structure CIni (Mb : MH) (n0 nn : Nat) (vn : MV) (i : Nat) (ids : List Nat) (f : Fr) (M : MH) : Prop where
 ext : Ext Mb M
 top : ∃ t, M.get Mb.n = some (.cs false 1 t) ∧ At t 0 ((ids.map fun j => MV.sl j 0 nn 0) ++ List.replicate (nn - i) .nils)
 top2 : Mb.n < M.n
 len : ids.length = i
 le : i ≤ nn
 rows : ∀ j ∈ ids, BoolsAt M j (List.replicate nn false)
 ne : ∀ j ∈ ids, j ≠ Mb.n ∧ Mb.n ≤ j ∧ j < M.n
 inj : ∀ (i i' : Nat) j, ids[i]? = some j → ids[i']? = some j → i = i'
 h1 : X.ev f (.t q1) = .p n0 0
 h3 : X.ev f (.t q3) = vn
 h4 : X.ev f (.t q4) = .i .i64 (nn : Int)
 h5 : X.ev f (.t q5) = .sl Mb.n 0 nn 0
 h6 : X.ev f (.t q6) = .i .i64 (i : Int)
theorem rcyclic_any {M : MH} {g : Gr} {vr vf vc vk : MV} {es : List (List MV)} (h : GrAt M vr vf vc vk es g) (hlo : M.lo ≤ M.n) : Cp fns 42 [.ag (gcs g vr vf vc vk)] M (CyPost g M) := by
 have hG : ∀ l, l = gcs g vr vf vc vk → Ev.getN (ofL l 0) 7 0 = some (gcs g vr vf vc vk) := fun l e => by subst e; exact (at_ofL (gcs g vr vf vc vk)).getN
 have hG := hG [MV.i IntKind.i64 g.names, MV.i IntKind.i64 g.kinds, MV.i IntKind.i64 g.start, vr, vf, vc, vk] rfl
 refine Cp_call (fn := F42) (by kernel_rfl) (Nat.le_of_ble_eq_true rfl) ?_
 show Wp fns B42 (T.set q0 (some (.ag (gcs g vr vf vc vk))) T.lf) M _
 unfold B42
 rw [show gcs g vr vf vc vk = [MV.i IntKind.i64 g.names, MV.i IntKind.i64 g.kinds, MV.i IntKind.i64 g.start, vr, vf, vc, vk] from rfl]
 generalize hM1 : M.push (.cs false 7 (ofL [MV.i IntKind.i64 g.names, MV.i IntKind.i64 g.kinds, MV.i IntKind.i64 g.start, vr, vf, vc, vk] 0)) = M1
 have g0 : M1.get M.n = some (.cs false 7 (ofL [MV.i IntKind.i64 g.names, MV.i IntKind.i64 g.kinds, MV.i IntKind.i64 g.start, vr, vf, vc, vk] 0)) := by rw [← hM1]; exact push_new _
 have x1 : Ext M M1 := by rw [← hM1]; exact .push M _
 have n1 : M1.n = M.n + 1 := by rw [← hM1]; rfl
 have l1 := x1.lo
 simp (disch := try exact dzq) only [↓bxD, bA, simprocAttr, hG, hM1, g0]
 refine bindP_call (formed_any (h.ext x1) (by omega)) ?_
 rintro m M2 ⟨rfl, x2⟩
 have n2 := x2.n
 have l2 := x2.lo
 have g2 := (x2.old _ (by omega)).trans g0
 by_cases hz : (formP g).2 = 0
 ·have dz : decide ((formP g).2 = 0) = true := decide_eq_true hz
  have hok := form_ok hz
  have hn1 := hok.n1
  have hn40 := hok.n2
  obtain ⟨nn, hnn⟩ : ∃ n : Nat, g.names = n := ⟨g.names.toNat, by omega⟩
  simp (disch := try exact dzq) only [↓bxD, bA, simprocAttr, dz]
  show Wp fns K42_29 _ _ _
  unfold K42_29
  simp (disch := try exact dzq) only [↓bxD, bA, simprocAttr, hG, g2]
  refine bindP_call (nullable_any ((h.ext x1).ext x2) (by omega)) ?_
  rintro vn Mb ⟨x3, ⟨hne, _⟩ | ⟨_, N, hN, hNr⟩⟩
  ·exact absurd hz hne
  have n3 := x3.n
  have l3 := x3.lo
  have g3 := (x3.old _ (by omega)).trans g2
  have cx : CCx Mb g vr vf vc vk es M.n nn vn N := ⟨((h.ext x1).ext x2).ext x3, hok, g3, by omega, by omega, hN, hNr, hnn⟩
  have cg0 : cget (ofL [MV.i IntKind.i64 g.names, MV.i IntKind.i64 g.kinds, MV.i IntKind.i64 g.start, vr, vf, vc, vk] 0) 0 = some (.i .i64 (nn : Int)) := by rw [← hnn]; exact (at_ofL _) 0 _ rfl
  simp (disch := try exact dzq) only [↓bxD, bA, simprocAttr, g3, cg0, ev_mks, mks_ok]
  have hx3M : Ext M Mb := (x1.trans x2).trans x3
  generalize hM3 : Mb.push _ = M3
  have hx3 : Ext Mb M3 := by rw [← hM3]; exact Ext.push Mb _
  have hg4 : M3.get Mb.n = some (.cs false 1 (ofL (zrow [.nils] nn) 0)) := by rw [← hM3]; exact push_new _
  have hn3 : M3.n = Mb.n + 1 := by rw [← hM3]; rfl
  clear hM3
  refine Wp_inv (σ := Nat × List Nat) (fun s f1 M4 => CIni Mb M.n nn vn s.1 s.2 f1 M4) (fun s => nn - s.1) ?_ (0, []) ?_
  ·rintro ⟨i, ids⟩ f1 M4 ⟨hx, ⟨t, ht1, ht2⟩, ht3, hlen, hi, hrows, hne, hinj, h1, h3, h4, h5, h6⟩
   simp only [q1, q3, q4, q5, q6] at h1 h3 h4 h5 h6
   simp only at ht2 hlen hi hrows hne hinj
   have hel := hx.lo
   have xn4 := hx.n
   unfold L42_2
   by_cases hi' : i < nn
   ·have d1 : decide ((i : Int) < (nn : Int)) = true := decide_eq_true (by omega)
    have hH : hasB t 1 (i * 1) = true := has_at ht2 (Nat.zero_le _) (by rw [List.length_append, List.length_map, List.length_replicate]; omega)
    simp (disch := try exact dzq) only [↓bxD, bA, simprocAttr, h4, h6, d1]
    show Wp fns K42_1 _ _ _
    unfold K42_1
    simp (disch := try exact dzq) only [↓bxD, bA, simprocAttr, h4, h5, h6, ht1, ev_mks, mks_ok, ix_slc]
    show Wp fns K42_0 _ _ _
    unfold K42_0
    simp (disch := try exact dzq) only [↓bxD, bA, simprocAttr, h6]
    have hset : (((ids.map fun j => MV.sl j 0 nn 0) ++ List.replicate (nn - i) MV.nils).set i (.sl M4.n 0 nn 0)) = ((ids ++ [M4.n]).map fun j => MV.sl j 0 nn 0) ++ List.replicate (nn - (i + 1)) MV.nils := by
     rw [set_mid _ _ _ MV.nils i (by rw [List.length_map]; exact hlen) (by rw [List.length_replicate]) (by rw [List.length_replicate]; omega), List.length_replicate, List.map_append]
     rfl
    have hAt := ht2.set' (k := i * 1) i (.sl M4.n 0 nn 0) (by rw [List.length_append, List.length_map, List.length_replicate]; omega) (by omega)
    rw [hset] at hAt
    have hrow := BoolsAt.new (M := M4) nn
    generalize hM5 : M4.push _ = M5 at hrow
    have hx5 : Ext M4 M5 := by rw [← hM5]; exact Ext.push M4 _
    have hn5 : M5.n = M4.n + 1 := by rw [← hM5]; rfl
    clear hM5
    generalize hM6 : M5.set Mb.n _ = M6
    have hx6 : Ext Mb M6 := by rw [← hM6]; exact (hx.trans hx5).set _ (Nat.le_refl _)
    have hg6 : M6.get Mb.n = some (.cs false 1 (setN [.sl M4.n 0 nn 0] (i * 1) t)) := by rw [← hM6, set_same]; rfl
    have hk6 : ∀ j, j ≠ Mb.n → M6.get j = M5.get j := fun j hj => by rw [← hM6, set_ne hj]
    have hn6 : M6.n = M5.n := by rw [← hM6]; rfl
    clear hM6
    refine ⟨(i + 1, ids ++ [M4.n]), by simp only; omega, ⟨hx6, ⟨_, hg6, hAt⟩, by omega, by simp only; rw [List.length_append, hlen]; rfl, by simp only; omega, fun j hj => ?_, fun j hj => ?_, fun a b j ha hb => ?_, ?_, ?_, ?_, ?_, ?_⟩⟩
    ·rcases List.mem_append.1 hj with h6 | h6
     ·obtain ⟨z1, z2, z3⟩ := hne j h6
      exact ((hrows j h6).same (hx5.old j z3)).same (hk6 j z1)
     ·rw [List.mem_singleton] at h6
      subst h6
      exact hrow.same (hk6 _ (by omega))
    ·rcases List.mem_append.1 hj with h6 | h6
     ·obtain ⟨z1, z2, z3⟩ := hne j h6
      exact ⟨z1, z2, by omega⟩
     ·rw [List.mem_singleton] at h6
      subst h6
      exact ⟨by omega, by omega, by omega⟩
    ·simp only at ha hb
     rw [List.getElem?_append] at ha hb
     split at ha
     ·split at hb
      ·exact hinj a b j ha hb
      ·have := (hne j (List.mem_of_getElem? ha)).2.2
       have h7 := List.mem_singleton.1 (List.mem_of_getElem? hb)
       omega
     ·have h7 := List.mem_singleton.1 (List.mem_of_getElem? ha)
      have h8 := (List.getElem?_eq_some_iff.1 ha).1
      simp only [List.length_singleton] at h8
      split at hb
      ·have := (hne j (List.mem_of_getElem? hb)).2.2
       omega
      ·have h9 := (List.getElem?_eq_some_iff.1 hb).1
       simp only [List.length_singleton] at h9
       omega
    ·simp only [bA, reduceCtorEq, h1]
    ·simp only [bA, reduceCtorEq, h3]
    ·simp only [bA, reduceCtorEq, h4]
    ·simp only [bA, reduceCtorEq, h5]
    ·simp only [bA, reduceCtorEq, h6] <;> rfl
   ·have d1 : decide ((i : Int) < (nn : Int)) = false := decide_eq_false (by omega)
    simp (disch := try exact dzq) only [↓bxD, bA, simprocAttr, h4, h6, d1]
    show Wp fns K42_28 _ _ _
    unfold K42_28
    simp (disch := try exact dzq) only [↓bxD, bA, simprocAttr]
    have hie : i = nn := by omega
    subst hie
    have hmat : MatOwn M4 Mb.n Mb.n ids (List.replicate i (List.replicate i false)) i := by
     refine ⟨⟨t, ht1, ?_⟩, by rw [List.length_replicate]; exact hlen, fun a j l ha hl => ?_, fun x hx => ?_, hne, ⟨Nat.le_refl _, ht3⟩, hinj⟩
     ·rw [Nat.sub_self, List.replicate_zero, List.append_nil] at ht2
      exact ht2
     ·rw [List.getElem?_replicate] at hl
      split at hl
      ·injection hl with hl
       subst hl
       exact hrows j (List.mem_of_getElem? ha)
      ·cases hl
     ·rw [(List.mem_replicate.1 hx).2, List.length_replicate]
    have hz0 : ∀ a t, mAt (List.replicate i (List.replicate i false)) a t = false := fun a t => by
     unfold mAt bAt
     rw [List.getD_eq_getElem?_getD, List.getD_eq_getElem?_getD, List.getElem?_replicate]
     split
     ·simp only [Option.getD_some]
      rw [List.getElem?_replicate]
      split <;> rfl
     ·rfl
    refine cyc_rules cx (id := Mb.n) (ids := ids) (F := List.replicate i (List.replicate i false)) ⟨hx, hmat, List.length_replicate⟩ ⟨by simp only [bA, reduceCtorEq, h1], by simp only [bA, reduceCtorEq, h3], by simp only [bA, reduceCtorEq, h4], by simp only [bA, reduceCtorEq, h5], by simp only [bA, reduceCtorEq] <;> rfl⟩ (fun x y _ _ => hz0 x y) _ ?_
    intro f2 M5 FF5 i5 h5c hf5 hR5
    have k4 := hf5.h4
    have k5 := hf5.h5
    simp only [q4, q5] at k4 k5
    show Wp fns K42_27 _ _ _
    unfold K42_27
    simp (disch := try exact dzq) only [↓bxD, bA, simprocAttr]
    refine cyc_k (i := 0) (by omega) (by omega) h5c (by simp (disch := try exact dzq) only [bA, simprocAttr, k4]) (by simp (disch := try exact dzq) only [bA, simprocAttr, k5]) (by simp (disch := try exact dzq) only [bA, simprocAttr] <;> rfl) hR5 _ ?_
    intro f3 M6 FF6 h6c k4 k5 hR6
    simp only [q4, q5] at k4 k5
    show Wp fns K42_26 _ _ _
    unfold K42_26
    simp (disch := try exact dzq) only [↓bxD, bA, simprocAttr]
    have hx6 := h6c.ext
    have hx6n := hx6.n
    have hx6l := hx6.lo
    have hnl : g.names.toNat = i := by omega
    have hcyl := cyL_len g N
    refine Wp_inv (σ := Nat) (fun j f M' => Ext M6 M' ∧ j ≤ i ∧ X.ev f (.t q4) = .i .i64 (i : Int) ∧ X.ev f (.t q5) = .sl Mb.n 0 i 0 ∧ X.ev f (.t q16) = .i .i64 (j : Int) ∧ ∃ v, X.ev f (.t q15) = v ∧ OwnRow M6.n M' 1 v (((cyL g N).take j).map fun b => [.b b])) (fun j => i - j) ?_ 0 ?_
    ·rintro j f M' ⟨hxj, hj, h4', h5', h16', v, h15', hv⟩
     simp only [q4, q5, q15, q16] at h4' h5' h15' h16'
     have hl' := hxj.lo
     have hn' := hxj.n
     unfold L42_24
     by_cases hj' : j < i
     ·have d2 : decide ((j : Int) < (i : Int)) = true := decide_eq_true (by omega)
      have hm := h6c.mat.ext hxj
      obtain ⟨tt, tt1, tt2⟩ := hm.topr
      have hil : ids.length = i := hm.len.trans h6c.len
      obtain ⟨id, hid⟩ : ∃ k, ids[j]? = some k := ⟨_, List.getElem?_eq_getElem (by omega)⟩
      have hT := tt2 j id hid
      obtain ⟨cj, cj1, cj2, cj3, cj4⟩ := MatOwn.put hm hid hj'
      have hC := cj2 j hj'
      have hval : mAt FF6 j j = bAt (cyL g N) j := by rw [hR6 j j hj' hj', cyL_at (by omega), hnl]
      rw [hval] at hC
      have hfill : fillM [(0, 1, MV.b (bAt (cyL g N) j))] [MV.b false] = some [MV.b (bAt (cyL g N) j)] := fill_one rfl rfl
      simp (disch := try exact dzq) only [↓bxD, bA, simprocAttr, h4', h16', d2]
      show Wp fns K42_23 _ _ _
      unfold K42_23
      simp (disch := try exact dzq) only [↓bxD, bA, simprocAttr, h5', h15', h16', tt1, hT, cj1, hC, ix_slc, hfill]
      have ho := hv.ext (.push M' (.cs false 1 (ofL [.b (bAt (cyL g N) j)] 0)))
      obtain ⟨v', M7, e1, e2, e3, e4, e5, e6⟩ := app_row (bytes := 1) ho (row_one (M := M') (sz := 1) (e := [.b (bAt (cyL g N) j)]) rfl) (by rw [push_lo]; omega) (by rw [push_n]; omega) (fun e he => by rw [List.mem_singleton.1 he]; rfl) (by rw [List.length_map, List.length_take, List.length_singleton]; omega) (by rw [List.length_map, List.length_take, List.length_singleton]; omega)
      refine bindP_of e1 ?_
      simp (disch := try exact dzq) only [↓bxD, bA, simprocAttr]
      show Wp fns K42_22 _ _ _
      unfold K42_22
      simp (disch := try exact dzq) only [↓bxD, bA, simprocAttr, h4', h5', h16']
      refine ⟨j + 1, by omega, ⟨by rw [push_n] at e3; omega, by rw [push_lo] at e4; omega, fun id hid => ?_⟩, by omega, rfl, v', rfl, ?_⟩
      ·rw [e6 id (by omega) (by rw [push_n]; omega), push_old (by omega), hxj.old id hid]
      ·rw [List.take_add_one, bAt_at (by omega)]
       simpa using e2
     ·have d2 : decide ((j : Int) < (i : Int)) = false := decide_eq_false (by omega)
      obtain rfl : j = i := by omega
      rw [List.take_of_length_le (by omega)] at hv
      simp (disch := try exact dzq) only [↓bxD, bA, simprocAttr, h4', h16', d2]
      show Wp fns K42_25 _ _ _
      unfold K42_25
      simp (disch := try exact dzq) only [↓bxD, bA, simprocAttr, h15']
      exact ⟨(hx3M.trans hx6).trans hxj, .inr ⟨hz, N, hN, hv.row⟩⟩
    ·exact ⟨.refl _, Nat.zero_le _, by simp (disch := try exact dzq) only [bA, simprocAttr, k4], by simp (disch := try exact dzq) only [bA, simprocAttr, k5], by simp (disch := try exact dzq) only [bA, simprocAttr] <;> rfl, .nils, by simp (disch := try exact dzq) only [bA, simprocAttr], OwnRow.nil _ _ _⟩
  ·refine ⟨hx3, ⟨_, hg4, ?_⟩, by omega, rfl, Nat.zero_le _, fun j hj => (by cases hj), fun j hj => (by cases hj), fun a b j ha => (by simp at ha), by simp only [bA, reduceCtorEq], by simp only [bA, reduceCtorEq], by simp only [bA, reduceCtorEq], by simp only [bA, reduceCtorEq], by simp only [bA, reduceCtorEq] <;> rfl⟩
   simp only [List.map_nil, List.nil_append, Nat.sub_zero]
   rw [← zrow_rep]
   exact at_ofL _
 ·have dz : decide ((formP g).2 = 0) = false := decide_eq_false hz
  simp (disch := try exact dzq) only [↓bxD, bA, simprocAttr, dz]
  exact ⟨x1.trans x2, .inl ⟨hz, rfl⟩⟩
theorem rcheck_any {M : MH} {g : Gr} {vr vf vc vk : MV} {es : List (List MV)} (h : GrAt M vr vf vc vk es g) (hlo : M.lo ≤ M.n) : Cp fns 27 [.ag (gcs g vr vf vc vk)] M fun m M' => Ext M M' ∧ ∃ z : Int × Int, ChIs g z ∧ m = .tp [.i .i64 z.1, .i .i64 z.2] := by
 have hG : ∀ l, l = gcs g vr vf vc vk → Ev.getN (ofL l 0) 7 0 = some (gcs g vr vf vc vk) := fun l e => by subst e; exact (at_ofL (gcs g vr vf vc vk)).getN
 have hG := hG [MV.i IntKind.i64 g.names, MV.i IntKind.i64 g.kinds, MV.i IntKind.i64 g.start, vr, vf, vc, vk] rfl
 refine Cp_call (fn := F27) (by kernel_rfl) (Nat.le_of_ble_eq_true rfl) ?_
 show Wp fns B27 (T.set q0 (some (.ag (gcs g vr vf vc vk))) T.lf) M _
 unfold B27
 rw [show gcs g vr vf vc vk = [MV.i IntKind.i64 g.names, MV.i IntKind.i64 g.kinds, MV.i IntKind.i64 g.start, vr, vf, vc, vk] from rfl]
 generalize hM1 : M.push (.cs false 7 (ofL [MV.i IntKind.i64 g.names, MV.i IntKind.i64 g.kinds, MV.i IntKind.i64 g.start, vr, vf, vc, vk] 0)) = M1
 have g0 : M1.get M.n = some (.cs false 7 (ofL [MV.i IntKind.i64 g.names, MV.i IntKind.i64 g.kinds, MV.i IntKind.i64 g.start, vr, vf, vc, vk] 0)) := by rw [← hM1]; exact push_new _
 have x1 : Ext M M1 := by rw [← hM1]; exact .push M _
 have n1 : M1.n = M.n + 1 := by rw [← hM1]; rfl
 have l1 := x1.lo
 simp (disch := try exact dzq) only [↓bxD, bA, simprocAttr, hG, hM1, g0]
 refine bindP_call (form_any (h.ext x1) (by omega)) ?_
 rintro m M2 ⟨rfl, x2⟩
 have n2 := x2.n
 have l2 := x2.lo
 have g2 := (x2.old _ (by omega)).trans g0
 have x02 := x1.trans x2
 by_cases hz : (formP g).2 = 0
 ·have dz : decide ((formP g).2 ≠ 0) = false := decide_eq_false (by rw [hz]; simp)
  have hok := form_ok hz
  have hn1 := hok.n1
  have hn40 := hok.n2
  obtain ⟨nn, hnn⟩ : ∃ n : Nat, g.names = n := ⟨g.names.toNat, by omega⟩
  have hnl : g.names.toNat = nn := by omega
  simp (disch := try exact dzq) only [↓bxD, bA, simprocAttr, dz]
  show Wp fns K27_8 _ _ _
  unfold K27_8
  simp (disch := try exact dzq) only [↓bxD, bA, simprocAttr, hG, g2]
  refine bindP_call (reachable_any (h.ext x02) (by omega)) ?_
  rintro m3 M3 ⟨x3, ⟨hne, _⟩ | ⟨_, R, hR, hRr⟩⟩
  ·exact absurd hz hne
  have n3 := x3.n
  have l3 := x3.lo
  have g3 := (x3.old M.n (by omega)).trans g2
  have x03 := x02.trans x3
  simp (disch := try exact dzq) only [↓bxD, bA, simprocAttr, hG, g3]
  refine bindP_call (rprod_any (h.ext x03) (by omega)) ?_
  rintro m4 M4 ⟨x4, ⟨hne, _⟩ | ⟨_, S, hS, hSr⟩⟩
  ·exact absurd hz hne
  have n4 := x4.n
  have l4 := x4.lo
  have g4 := (x4.old M.n (by omega)).trans g3
  have x04 := x03.trans x4
  simp (disch := try exact dzq) only [↓bxD, bA, simprocAttr, hG, g4]
  refine bindP_call (rcyclic_any (h.ext x04) (by omega)) ?_
  rintro m5 M5 ⟨x5, ⟨hne, _⟩ | ⟨_, N, hN, hNr⟩⟩
  ·exact absurd hz hne
  have n5 := x5.n
  have l5 := x5.lo
  have g5 := (x5.old M.n (by omega)).trans g4
  have x05 := x04.trans x5
  have hRr5 := (hRr.ext x4).ext x5
  have hSr5 := hSr.ext x5
  obtain ⟨r1, r2⟩ := hRr5.sl
  obtain ⟨s1, s2⟩ := hSr5.sl
  obtain ⟨c1, c2⟩ := hNr.sl
  have hRl : R.length = nn := by rw [hR.1]; omega
  have hSl : (S.map fun z => decide (0 ≤ z)).length = nn := by rw [List.length_map, (hS.inn hok).len]; omega
  have hCl := cyL_len g N
  have cg0 : cget (ofL [MV.i IntKind.i64 g.names, MV.i IntKind.i64 g.kinds, MV.i IntKind.i64 g.start, vr, vf, vc, vk] 0) 0 = some (.i .i64 (nn : Int)) := by rw [← hnn]; exact (at_ofL _) 0 _ rfl
  simp (disch := try exact dzq) only [↓bxD, bA, simprocAttr]
  refine Wp_inv (σ := Nat) (fun i f M' => M' = M5 ∧ i ≤ nn ∧ (∀ k, k < i → (!(bAt R k) || !(bAt (S.map fun z => decide (0 ≤ z)) k)) = false) ∧ X.ev f (.t q1) = .p M.n 0 ∧ X.ev f (.t q6) = m3 ∧ X.ev f (.t q7) = m4 ∧ X.ev f (.t q8) = m5 ∧ X.ev f (.t q9) = .i .i64 (i : Int)) (fun i => nn - i) ?_ 0 ?_
  ·rintro i f M' ⟨rfl, hi, hk, h1, h6, h7, h8, h9⟩
   simp only [q1, q6, q7, q8, q9] at h1 h6 h7 h8 h9
   unfold L27_2
   by_cases hi' : i < nn
   ·have d1 : decide ((i : Int) < (nn : Int)) = true := decide_eq_true (by omega)
    obtain ⟨ro, sz, t, hg, hid, hC⟩ := hRr5.read (i := i) (by omega)
    obtain ⟨ro2, sz2, t2, hg2, hid2, hC2⟩ := hSr5.read (i := i) (by omega)
    have use : (!(bAt R i) || !(bAt (S.map fun z => decide (0 ≤ z)) i)) = true → ChIs g ((i : Int), 7) := fun hb => chk_useless hz hR hS hN (firstP_is (Nat.zero_le _) (by omega) hb fun m _ hm => hk m hm)
    cases hb : bAt R i with
    | false =>
     rw [hb] at hC
     have hu := use (by rw [hb]; rfl)
     simp (disch := try exact dzq) only [↓bxD, bA, simprocAttr, h1, h9, d1, g5, cg0]
     show Wp fns K27_1 _ _ _
     unfold K27_1
     simp (disch := try exact dzq) only [↓bxD, bA, simprocAttr, h6, h9, hg, hC]
     exact ⟨x05, _, hu, rfl⟩
    | true =>
     rw [hb] at hC
     cases hb2 : bAt (S.map fun z => decide (0 ≤ z)) i with
     | false =>
      rw [hb2] at hC2
      have hu := use (by rw [hb2]; simp)
      simp (disch := try exact dzq) only [↓bxD, bA, simprocAttr, h1, h9, d1, g5, cg0]
      show Wp fns K27_1 _ _ _
      unfold K27_1
      simp (disch := try exact dzq) only [↓bxD, bA, simprocAttr, h6, h7, h9, hg, hC, hg2, hC2]
      exact ⟨x05, _, hu, rfl⟩
     | true =>
      rw [hb2] at hC2
      simp (disch := try exact dzq) only [↓bxD, bA, simprocAttr, h1, h9, d1, g5, cg0]
      show Wp fns K27_1 _ _ _
      unfold K27_1
      simp (disch := try exact dzq) only [↓bxD, bA, simprocAttr, h6, h7, h9, hg, hC, hg2, hC2]
      show Wp fns K27_0 _ _ _
      unfold K27_0
      simp (disch := try exact dzq) only [↓bxD, bA, simprocAttr, h1, h6, h7, h8, h9]
      refine ⟨i + 1, by omega, by omega, fun k hk' => ?_, rfl⟩
      by_cases e : k = i
      ·subst e; rw [hb, hb2]; rfl
      ·exact hk k (by omega)
   ·have d1 : decide ((i : Int) < (nn : Int)) = false := decide_eq_false (by omega)
    obtain rfl : i = nn := by omega
    have hnone : firstP (fun i => !(bAt R i) || !(bAt (S.map fun z => decide (0 ≤ z)) i)) g.names.toNat 0 = none := firstP_no fun m _ hm => hk m (by omega)
    simp (disch := try exact dzq) only [↓bxD, bA, simprocAttr, h1, h9, d1, g5, cg0]
    show Wp fns K27_7 _ _ _
    unfold K27_7
    simp (disch := try exact dzq) only [↓bxD, bA, simprocAttr]
    refine Wp_inv (σ := Nat) (fun j f Mx => Mx = M' ∧ j ≤ i ∧ (∀ k, k < j → bAt (cyL g N) k = false) ∧ X.ev f (.t q1) = .p M.n 0 ∧ X.ev f (.t q8) = m5 ∧ X.ev f (.t q10) = .i .i64 (j : Int)) (fun j => i - j) ?_ 0 ?_
    ·clear h1 h6 h7 h8 h9 d1
     rintro j f Mx ⟨rfl, hj, hk2, h1, h8, h10⟩
     simp only [q1, q8, q10] at h1 h8 h10
     unfold L27_5
     by_cases hj' : j < i
     ·have d1 : decide ((j : Int) < (i : Int)) = true := decide_eq_true (by omega)
      obtain ⟨ro, sz, t, hg, hid, hC⟩ := hNr.read (i := j) (by omega)
      cases hb : bAt (cyL g N) j with
      | true =>
       rw [hb] at hC
       have hu := chk_cycle hz hR hS hN hnone (i := j) (firstP_is (Nat.zero_le _) (by omega) hb fun m _ hm => hk2 m hm)
       simp (disch := try exact dzq) only [↓bxD, bA, simprocAttr, h1, h10, d1, g5, cg0]
       show Wp fns K27_4 _ _ _
       unfold K27_4
       simp (disch := try exact dzq) only [↓bxD, bA, simprocAttr, h8, h10, hg, hC]
       exact ⟨x05, _, hu, rfl⟩
      | false =>
       rw [hb] at hC
       simp (disch := try exact dzq) only [↓bxD, bA, simprocAttr, h1, h10, d1, g5, cg0]
       show Wp fns K27_4 _ _ _
       unfold K27_4
       simp (disch := try exact dzq) only [↓bxD, bA, simprocAttr, h8, h10, hg, hC]
       show Wp fns K27_3 _ _ _
       unfold K27_3
       simp (disch := try exact dzq) only [↓bxD, bA, simprocAttr, h1, h8, h10]
       refine ⟨j + 1, by omega, by omega, fun k hk' => ?_, rfl⟩
       by_cases e : k = j
       ·subst e; exact hb
       ·exact hk2 k (by omega)
     ·have d1 : decide ((j : Int) < (i : Int)) = false := decide_eq_false (by omega)
      obtain rfl : j = i := by omega
      have hu := chk_fine hz hR hS hN hnone (firstP_no fun m _ hm => hk2 m (by omega))
      simp (disch := try exact dzq) only [↓bxD, bA, simprocAttr, h1, h10, d1, g5, cg0]
      show Wp fns K27_6 _ _ _
      unfold K27_6
      simp (disch := try exact dzq) only [↓bxD, bA, simprocAttr]
      exact ⟨x05, _, hu, rfl⟩
    ·exact ⟨rfl, Nat.zero_le _, fun k hk => absurd hk (Nat.not_lt_zero k), by simp only [bA, reduceCtorEq, h1], by simp only [bA, reduceCtorEq, h8], by simp only [bA, reduceCtorEq] <;> rfl⟩
  ·exact ⟨rfl, Nat.zero_le _, fun k hk => absurd hk (Nat.not_lt_zero k), by simp only [bA, reduceCtorEq], by simp only [bA, reduceCtorEq], by simp only [bA, reduceCtorEq], by simp only [bA, reduceCtorEq], by simp only [bA, reduceCtorEq] <;> rfl⟩
 ·have dz : decide ((formP g).2 ≠ 0) = true := decide_eq_true hz
  simp (disch := try exact dzq) only [↓bxD, bA, simprocAttr, dz]
  exact ⟨x02, formP g, .inl ⟨hz, rfl⟩, rfl⟩
def unc (n : Nat) : Int × Int := (((n / 9 : Nat) : Int) - 1, ((n % 9 : Nat) : Int))
theorem prs_unc (l : List Nat) : prs (l.map unc) = ivs l := by unfold prs ivs; rw [List.map_map]; rfl
theorem itemO_unc {g : Gr} {n : Nat} (h : IsN g n) : itemO g (unc n).1 (unc n).2 = some n := by
 obtain ⟨l, hq, hl⟩ := h
 unfold itemO unc
 simp only
 rw [if_neg (by omega), show (((n / 9 : Nat) : Int) - 1 + 1).toNat = n / 9 from by omega, hq]
 simp only
 rw [if_pos (by omega)]
 congr 1
 omega
theorem its_unc {g : Gr} : ∀ {l : List Nat}, (∀ n ∈ l, IsN g n) → its g (l.map unc) = l
 | [], _ => rfl
 | n :: l, h => by
  have ih := its_unc (g := g) (l := l) fun m hm => h m (List.mem_cons_of_mem _ hm)
  unfold its at ih ⊢
  rw [List.map_cons, List.filterMap_cons, itemO_unc (h n List.mem_cons_self), ih]
theorem bits_one : bitsOf 1 576 = [0] := bits_bs (l := [0]) (List.pairwise_singleton _ _) fun i hi => by rw [List.mem_singleton.1 hi]; omega
theorem rstates_any {M : MH} {g : Gr} {vr vf vc vk : MV} {es : List (List MV)} (h : GrAt M vr vf vc vk es g) (hlo : M.lo ≤ M.n) : Cp fns 12 [.ag (gcs g vr vf vc vk)] M fun m M' => Ext M M' ∧ ∃ r, StaIs g r ∧ StaRows M' m r := by
 refine Cp_call (fn := F12) (by kernel_rfl) (Nat.le_of_ble_eq_true rfl) ?_
 show Wp fns B12 (T.set q0 (some (.ag (gcs g vr vf vc vk))) T.lf) M _
 unfold B12
 simp (disch := try exact dz) only [↓bxD, bA, simprocAttr, g_len]
 generalize hM1 : M.push _ = M1
 have x1 : Ext M M1 := by rw [← hM1]; exact .push M _
 have g1 : M1.get M.n = some (.cs false 7 (ofL (gcs g vr vf vc vk) 0)) := by rw [← hM1]; exact push_new _
 have n1 : M1.n = M.n + 1 := by rw [← hM1]; rfl
 have l1 := x1.lo
 clear hM1
 simp (disch := try exact dz) only [↓bxD, bA, simprocAttr, g_N]
 refine bindP_call (rcheck_any (h.ext x1) (by omega)) ?_
 rintro m M2 ⟨x2, z, hz, rfl⟩
 have n2 := x2.n
 have l2 := x2.lo
 have g2 := (x2.old _ (by omega)).trans g1
 have x12 := x1.trans x2
 by_cases hz0 : z.2 = 0
 ·have d0 : decide (z.2 ≠ 0) = false := decide_eq_false (fun e => e hz0)
  have hform : (formP g).2 = 0 := by
   rcases hz with ⟨h1, h2⟩ | ⟨h1, _⟩
   ·exact absurd (by rw [h2] at hz0; exact hz0) h1
   ·exact h1
  have hok := form_ok hform
  have h60 := hok.rl
  have ff0 : fillM [(0, 1, MV.i .i64 (Int.negSucc 0))] [.i .i64 0, .i .i64 0] = some (itc 0) := rfl
  have ff1 : fillM [(0, 2, MV.ag (itc 0))] [.i .i64 0, .i .i64 0] = some (itc 0) := rfl
  have ff2 : fillM [(0, 1, MV.sl M2.n 0 1 0)] [.nils, .nils, .nils] = some [.sl M2.n 0 1 0, .nils, .nils] := rfl
  have ff3 : fillM [(0, 3, MV.ag [MV.sl M2.n 0 1 0, .nils, .nils])] [.nils, .nils, .nils] = some [.sl M2.n 0 1 0, .nils, .nils] := rfl
  simp (disch := try exact dz) only [↓bxD, bA, simprocAttr, d0]
  show Wp fns K12_20 _ _ _
  unfold K12_20
  simp (disch := try exact dz) only [↓bxD, bA, reduceCtorEq, ff0, ff1, ff2, ff3]
  generalize hM3 : (M2.push _).push _ = M3
  obtain ⟨x3, n3, g31, g32⟩ := push2 hM3
  have l3 := x3.lo
  clear hM3
  have hgB := h.ext x12
  have hR3 : RSt M2.n M2.n M3 (.sl (M2.n + 1) 0 1 0) [1] [[.sl M2.n 0 1 0, .nils, .nils]] [] none := ⟨⟨fun e he => by rw [List.mem_singleton.1 he]; rfl, .inr ⟨M2.n + 1, _, rfl, g32, by omega, by omega, at_ofL _⟩⟩, rfl, fun i e N he hN => by
   have hi := (List.getElem?_eq_some_iff.1 he).1
   have hi0 : i = 0 := by simpa using hi
   subst hi0
   injection he with he
   injection hN with hN
   subst he hN
   refine ⟨.sl M2.n 0 1 0, .nils, .nils, rfl, ?_, fun d hd => (by simp at hd), fun aa ha => (by cases ha), fun _ => ⟨rfl, rfl⟩⟩
   rw [bits_one]
   exact ⟨fun e he => by rw [List.mem_singleton.1 he]; rfl, .inr ⟨M2.n, _, rfl, g31, Nat.le_refl _, by omega, at_ofL _⟩⟩⟩
  refine Wp_inv (σ := Nat) (fun n f M' => X.ev f (.t q1) = .p M.n 0 ∧ X.ev f (.t q7) = .i .i64 (n : Int) ∧ n ≤ (stN g n).2.length ∧ (stN g n).2.length ≤ 2000 ∧ Ext M2 M' ∧ ∃ hi v6 els, X.ev f (.t q6) = v6 ∧ M2.n ≤ hi ∧ hi ≤ M'.n ∧ RSt M2.n hi M' v6 (stN g n).2 els (stN g n).1 none) (fun n => 2001 - n) ?_ 0 ?_
  ·rintro n f M4 ⟨k1, k7, hn1, hn2, x4, hi, v6, els, k6, hh1, hh2, hR⟩
   simp only [q1, q6, q7] at k1 k6 k7
   have n4 := x4.n
   have l4 := x4.lo
   have hsl := stN_len g n hn1
   obtain ⟨s1, s2⟩ := hR.r6.row.sl
   rw [hR.len] at s2
   have gA := (x4.old M.n (by omega)).trans g2
   unfold L12_18
   by_cases hlt : n < (stN g n).2.length
   ·have d1 : decide ((n : Int) < ((stN g n).2.length : Int)) = true := decide_eq_true (by omega)
    obtain ⟨N, hN⟩ : ∃ N, (stN g n).2[n]? = some N := ⟨_, List.getElem?_eq_getElem hlt⟩
    obtain ⟨e, he⟩ : ∃ e, els[n]? = some e := ⟨_, List.getElem?_eq_getElem (by have := hR.len; omega)⟩
    obtain ⟨vi, v1, v2, rfl, hvi, _, _, _⟩ := hR.st n e N he hN
    obtain ⟨ro, sz, t, g', gid, gC⟩ := hR.r6.row.read he
    have c0 : cget t (soff v6 + n * 3) = some vi := by have := gC 0 _ rfl; simpa using this
    have wi : wrapF .i64 ((n : Int) + 1) = ((n + 1 : Nat) : Int) := by rw [wrap_in (by omega) (by omega)]; omega
    have hNI := stN_items hok n N (List.mem_of_getElem? hN)
    have hbI : ∀ m ∈ bitsOf N 576, IsN g m := fun m hm => hNI m (mem_bits.1 hm).2
    simp (disch := try exact dz) only [↓bxD, bA, simprocAttr, k6, k7, s2, d1]
    show Wp fns K12_17 _ _ _
    unfold K12_17
    simp (disch := try exact dz) only [↓bxD, bA, simprocAttr]
    refine Wp_dreg_of (by omega) ?_
    simp (disch := try exact dz) only [↓bxD, bA, simprocAttr, k1, k6, k7, gA, g_N, g', c0]
    refine bindP_call (rclose_any (v := vi) (l := (bitsOf N 576).map unc) (hgB.ext x4) (by rw [prs_unc]; exact hvi.row) (by rw [List.length_map]; have := bitsOf_len N 576; omega) (by omega)) ?_
    rintro va M5 ⟨x5, L, hL, hva⟩
    have n5 := x5.n
    have l5 := x5.lo
    have hits : its g ((bitsOf N 576).map unc) = bitsOf N 576 := its_unc hbI
    have hcl : ClsN g (fun i => N.testBit i = true) (clsN g fun i => N.testBit i = true) := clsN_is hok h60 hNI
    have hN576 : Bits N := fun i hi => by have := (hNI i hi).lt hok h60; omega
    have hLc : L = bitsOf (clsN g fun i => N.testBit i = true) 576 := by
     rcases hL with ⟨hne, _⟩ | ⟨_, W, hW, rfl⟩
     ·exact absurd hform hne
     ·rw [(cls_same hW fun m => by rw [hits, mem_bits]; exact ⟨fun e => e.2, fun e => ⟨hN576 m e, e⟩⟩).ext hcl]
    subst hLc
    have hsu := stN_succ hN
    have hcI : ∀ m ∈ bitsOf (clsN g fun i => N.testBit i = true) 576, IsN g m := fun m hm => ((hcl.bit m).1 (mem_bits.1 hm).2).is hNI
    have hcr := ris_bits (clsN g fun i => N.testBit i = true) 576
    have hcln := bitsOf_len (clsN g fun i => N.testBit i = true) 576
    generalize bitsOf (clsN g fun i => N.testBit i = true) 576 = c at hva hsu hcI hcr hcln
    have gA5 := (x5.old _ (by omega)).trans gA
    simp (disch := try exact dz) only [↓bxD, bA, simprocAttr]
    show Wp fns K12_15 _ _ _
    unfold K12_15
    simp (disch := try exact dz) only [↓bxD, bA, simprocAttr, k1, g_N, gA5, g_N]
    refine bindP_call (syms_any (hgB.ext (x4.trans x5)) hform hva.row hcI (by omega) (by omega)) ?_
    rintro vy M6 ⟨x6, hvy⟩
    have n6 := x6.n
    have l6 := x6.lo
    have x46 : Ext M2 M6 := (x4.trans x5).trans x6
    have hR6 : RSt M2.n M6.n M6 v6 (stN g n).2 els (stN g n).1 (some ([], [])) := ((hR.ext x5).ext x6).begin (by omega)
    simp (disch := try exact dz) only [↓bxD, bA, simprocAttr]
    generalize hks : (stN g n).2 = ks at hsu hR6 hn1 hn2 hlt hN
    have hBk : ∀ N ∈ ks, Bits N := fun N' hN' i hi => by
     have := (stN_items hok n N' (by rw [hks]; exact hN') i hi).lt hok h60
     omega
    have e1 : (stN g (n + 1)).2 = (leadP g c ks).ks := by rw [hsu]
    have e2 : (stN g (n + 1)).1 = (stN g n).1 ++ [((leadP g c ks).syms, (leadP g c ks).to)] := by rw [hsu]
    have e1l := congrArg List.length e1
    have hpre := (steps_pre g c (symsA g) ⟨[], [], ks⟩).length_le
    have hpre : ks.length ≤ (leadP g c ks).ks.length := hpre
    refine rlead (B := M2) (lo := M2.n) (hi := M6.n) (n := n) (A := M.n) hgB hform x46 (Nat.le_refl _) g2 (by omega) hR6 hsl hlt hn2 hBk (by omega) (by omega) (Nat.le_refl _) ((hva.ext x6).le (Nat.zero_le _)) hcr hcI hcln (hvy.le (Nat.zero_le _)) (fun j hj => (own_obj hvy hj).2.1) (by simp (disch := try exact dz) only [bA, simprocAttr, k1]) (by simp (disch := try exact dz) only [bA, simprocAttr, k6]) (by simp (disch := try exact dz) only [bA, simprocAttr, k7]) (by simp only [bA, reduceCtorEq]) (by simp only [bA, reduceCtorEq]) (by simp only [bA, reduceCtorEq]) _ ?_ ?_
    ·intro hbig f2 M7 r2 r3 hex
     simp only [q2, q3] at r2 r3
     have r2' : IRes.ev f2 M7 (.tmp (Ky.k1 Dg.d2)) = some .nils := r2
     have r3' : IRes.ev f2 M7 (.tmp (Ky.k1 Dg.d3)) = some (.i .i64 3) := r3
     simp (disch := try exact dz) only [bA, simprocAttr, r2', r3']
     exact ⟨x12.trans hex, (3, none), ⟨z, hz, .inr ⟨hz0, none, .long (by rw [e1]; exact hbig), rfl⟩⟩, rfl⟩
    ·intro hsm f2 M7 v7 els7 r1 r7 r6 hfr hS
     simp only [q1, q6, q7] at r1 r6 r7
     have j1 : X.ev f2 (.t (Ky.k1 Dg.d1)) = .p M.n 0 := r1.trans (by simp (disch := try exact dz) only [bA, simprocAttr, k1])
     have j7 : X.ev f2 (.t (Ky.k1 Dg.d7)) = .i .i64 (n : Int) := r7.trans (by simp (disch := try exact dz) only [bA, simprocAttr, k7])
     have fn := hfr.n
     have hex : Ext M2 M7 := ⟨by omega, by rw [hfr.l]; exact x46.lo, fun j hj => (hfr.old j (by omega) (.inl hj)).trans (x46.old j hj)⟩
     have hfin := hS.fin (by omega)
     rw [← e1, ← e2] at hfin
     simp (disch := try exact dz) only [bA, simprocAttr]
     show Wp fns K12_16 _ _ _
     unfold K12_16
     simp (disch := try exact dz) only [↓bxD, bA, simprocAttr, j1, j7, r6, wi]
     exact ⟨n + 1, by omega, by rfl, by omega, by omega, hex, M7.n, v7, els7, rfl, by omega, Nat.le_refl _, hfin⟩
   ·have d1 : decide ((n : Int) < ((stN g n).2.length : Int)) = false := decide_eq_false (by omega)
    have hnl : (stN g n).2.length = n := by omega
    simp (disch := try exact dz) only [↓bxD, bA, simprocAttr, k6, k7, s2, d1]
    show Wp fns K12_19 _ _ _
    unfold K12_19
    simp (disch := try exact dz) only [↓bxD, bA, simprocAttr, k6]
    refine ⟨x12.trans x4, (0, some (stN g n)), ⟨z, hz, .inr ⟨hz0, some (stN g n), .all hnl (by omega), rfl⟩⟩, v6, rfl, els, hR.r6.row, hR.len, by omega, fun i e N d he hN hd => ?_⟩
    obtain ⟨vi, v1, v2, q1, q2, q3, _⟩ := hR.st i e N he hN
    obtain ⟨r1, r2, _⟩ := q3 d hd
    exact ⟨vi, v1, v2, q1, q2.row, r1.row, r2.row⟩
  ·exact ⟨by simp only [bA, reduceCtorEq], by simp only [bA, reduceCtorEq] <;> rfl, Nat.zero_le _, by show 1 ≤ 2000; omega, x3, M2.n, .sl (M2.n + 1) 0 1 0, [[.sl M2.n 0 1 0, .nils, .nils]], by simp only [bA, reduceCtorEq], Nat.le_refl _, by omega, hR3⟩
 ·have d0 : decide (z.2 ≠ 0) = true := decide_eq_true hz0
  simp (disch := try exact dz) only [↓bxD, bA, simprocAttr, d0]
  exact ⟨x12, (z.2, none), ⟨z, hz, .inl ⟨hz0, rfl⟩⟩, rfl⟩
theorem num_any {M : MH} {z : Int} : Cp fns 14 [.i .i64 z] M fun m M' => m = .i .i64 z ∧ M' = M := by
 refine Cp_call (fn := F14) (by kernel_rfl) (Nat.le_of_ble_eq_true rfl) ?_
 show Wp fns B14 (T.set q0 (some (.i .i64 z)) T.lf) M _
 unfold B14
 simp (disch := try exact dz) only [↓bxD, bA, simprocAttr]
theorem same_states {M : MH} {a b : MV} {ks : List Nat} {done : List StR} (ha : StRows M a ks done) (hb : StRows M b ks done) (hd : ∀ d ∈ done, d.1.length ≤ 1000 ∧ d.2.length ≤ 1000) (hk : ks.length ≤ 100000) (hlo : M.lo ≤ M.n) : Cp fns 13 [a, b] M fun m M' => m = .b true ∧ Ext M M' := by
 obtain ⟨ea, ra, la, ld, ia⟩ := ha
 obtain ⟨eb, rb, lb, _, ib⟩ := hb
 obtain ⟨s1, s2⟩ := ra.sl
 obtain ⟨t1, t2⟩ := rb.sl
 rw [la] at s2
 rw [lb] at t2
 refine Cp_call (fn := F13) (by kernel_rfl) (Nat.le_of_ble_eq_true rfl) ?_
 show Wp fns B13 (T.set q1 (some b) (T.set q0 (some a) T.lf)) M _
 unfold B13
 have d0 : decide ((ks.length : Int) ≠ (ks.length : Int)) = false := decide_eq_false (fun e => e rfl)
 simp (disch := try exact dz) only [↓bxD, bA, simprocAttr, s2, t2, d0]
 show Wp fns K13_5 _ _ _
 unfold K13_5
 simp (disch := try exact dz) only [↓bxD, bA, simprocAttr]
 refine Wp_inv (σ := Nat) (fun i f M' => i ≤ ks.length ∧ X.ev f (.t q0) = a ∧ X.ev f (.t q1) = b ∧ X.ev f (.t q5) = .i .i64 (i : Int) ∧ Ext M M') (fun i => ks.length - i) ?_ 0 ?_
 ·rintro i f M1 ⟨hi, e0, e1, e5, hx⟩
  simp only [q0, q1, q5] at e0 e1 e5
  have xn := hx.n
  have xl := hx.lo
  unfold L13_3
  by_cases hi' : i < ks.length
  ·have d1 : decide ((i : Int) < (ks.length : Int)) = true := decide_eq_true (by omega)
   obtain ⟨N, hN⟩ : ∃ N, ks[i]? = some N := ⟨_, List.getElem?_eq_getElem hi'⟩
   obtain ⟨xa, hxa⟩ : ∃ e, ea[i]? = some e := ⟨_, List.getElem?_eq_getElem (by omega)⟩
   obtain ⟨xb, hxb⟩ : ∃ e, eb[i]? = some e := ⟨_, List.getElem?_eq_getElem (by omega)⟩
   obtain ⟨d, hdd⟩ : ∃ d, done[i]? = some d := ⟨_, List.getElem?_eq_getElem (by omega)⟩
   obtain ⟨vi, v1, v2, rfl, p1, p2, p3⟩ := ia i xa N d hxa hN hdd
   obtain ⟨wi, w1, w2, rfl, r1, r2, r3⟩ := ib i xb N d hxb hN hdd
   obtain ⟨hd1, hd2⟩ := hd d (List.mem_of_getElem? hdd)
   obtain ⟨ro, sz, t, g, gid, gC⟩ := (ra.ext hx).read hxa
   obtain ⟨ro', sz', t', g', gid', gC'⟩ := (rb.ext hx).read hxb
   have c0 : cget t (soff a + i * 3) = some vi := by have := gC 0 _ rfl; simpa using this
   have c1 : cget t (soff a + i * 3 + 1) = some v1 := gC 1 _ rfl
   have c2 : cget t (soff a + i * 3 + 2) = some v2 := gC 2 _ rfl
   have c0' : cget t' (soff b + i * 3) = some wi := by have := gC' 0 _ rfl; simpa using this
   have c1' : cget t' (soff b + i * 3 + 1) = some w1 := gC' 1 _ rfl
   have c2' : cget t' (soff b + i * 3 + 2) = some w2 := gC' 2 _ rfl
   have wr : wrapF .i64 ((i : Int) + 1) = ((i + 1 : Nat) : Int) := by rw [wrap_in (by omega) (by omega)]; omega
   simp (disch := try exact dz) only [↓bxD, bA, simprocAttr, e0, e5, s2, d1]
   show Wp fns K13_2 _ _ _
   unfold K13_2
   simp (disch := try exact dz) only [↓bxD, bA, simprocAttr]
   refine Wp_dreg_of (by omega) ?_
   simp (disch := try exact dz) only [↓bxD, bA, simprocAttr, e0, e1, e5, g, g', c0, c0']
   refine bindP_call (same_items (by omega) (p1.ext hx) (r1.ext hx) (by have := bitsOf_len N 576; omega)) ?_
   rintro m M2 ⟨rfl, x2⟩
   have hx2 := hx.trans x2
   have n2 := x2.n
   have l2 := x2.lo
   have g2 := (x2.old _ gid).trans g
   have g2' := (x2.old _ gid').trans g'
   simp (disch := try exact dz) only [↓bxD, bA, simprocAttr, e0, e1, e5, g2, g2', c1, c1']
   refine bindP_call (same_ints (IntRow.ext p2 hx2) (IntRow.ext r2 hx2) (by omega) (by omega)) ?_
   rintro m M3 ⟨rfl, rfl⟩
   simp (disch := try exact dz) only [↓bxD, bA, simprocAttr, e0, e1, e5, g2, g2', c2, c2']
   refine bindP_call (same_ints (IntRow.ext p3 hx2) (IntRow.ext r3 hx2) (by rw [List.length_map]; omega) (by omega)) ?_
   rintro m M4 ⟨rfl, rfl⟩
   simp (disch := try exact dz) only [↓bxD, bA, simprocAttr]
   show Wp fns K13_0 _ _ _
   unfold K13_0
   simp (disch := try exact dz) only [↓bxD, bA, simprocAttr]
   show Wp fns K13_1 _ _ _
   unfold K13_1
   simp (disch := try exact dz) only [↓bxD, bA, simprocAttr, e0, e1, e5, wr]
   exact ⟨i + 1, by omega, by omega, rfl, hx2⟩
  ·have hil : i = ks.length := by omega
   subst hil
   have d1 : decide ((ks.length : Int) < (ks.length : Int)) = false := decide_eq_false (by omega)
   simp (disch := try exact dz) only [↓bxD, bA, simprocAttr, e0, e5, s2, d1]
   show Wp fns K13_4 _ _ _
   unfold K13_4
   simp (disch := try exact dz) only [↓bxD, bA, simprocAttr]
   exact hx
 ·exact ⟨Nat.zero_le _, by simp only [bA, reduceCtorEq], by simp only [bA, reduceCtorEq], by simp only [bA, reduceCtorEq] <;> rfl, .refl _⟩
theorem stN_small {g : Gr} : ∀ n, ∀ d ∈ (stN g n).1, d.1.length ≤ g.kinds.toNat + g.names.toNat ∧ d.2.length ≤ g.kinds.toNat + g.names.toNat
 | 0, d, hd => by simp [stN] at hd
 | n + 1, d, hd => by
  cases hk : (stN g n).2[n]? with
  | none => rw [stN_stop hk] at hd; exact stN_small n d hd
  | some k =>
   rw [stN_succ hk] at hd
   rcases List.mem_append.1 hd with hd | hd
   ·exact stN_small n d hd
   ·rw [List.mem_singleton.1 hd]
    obtain ⟨a, b, _⟩ := accI_len (g := g) (c := bitsOf (clsN g fun i => k.testBit i = true) 576) (ks := (stN g n).2) _ (Nat.le_refl _)
    rw [accI_all] at a b
    exact ⟨a, by rw [b]; exact a⟩
theorem law_states {M : MH} {g : Gr} {vr vf vc vk : MV} {es : List (List MV)} (h : GrAt M vr vf vc vk es g) (hlo : M.lo ≤ M.n) (ha : ∀ M', Ext M M' → Cp fns 6 [] M' fun m M2 => m = .b true ∧ M2 = M') : Cp fns 4 [.ag (gcs g vr vf vc vk)] M fun m _ => m = .b true := by
 obtain ⟨hr1, hr2⟩ := h.rules.row.sl
 rw [h.rules.len] at hr2
 refine Cp_call (fn := F4) (by kernel_rfl) (Nat.le_of_ble_eq_true rfl) ?_
 show Wp fns B4 (T.set q0 (some (.ag (gcs g vr vf vc vk))) T.lf) M _
 unfold B4
 simp (disch := try exact dz) only [↓bxD, bA, simprocAttr, g_len]
 generalize hM1 : M.push _ = M1
 have x1 : Ext M M1 := by rw [← hM1]; exact .push M _
 have g1 : M1.get M.n = some (.cs false 7 (ofL (gcs g vr vf vc vk) 0)) := by rw [← hM1]; exact push_new _
 have n1 : M1.n = M.n + 1 := by rw [← hM1]; rfl
 have l1 := x1.lo
 clear hM1
 refine bindP_call (ha _ x1) ?_
 rintro m M2 ⟨rfl, rfl⟩
 simp (disch := try exact dz) only [↓bxD, bA, simprocAttr, g1, g_N]
 refine bindP_call (few_any (h.ext x1) (by omega)) ?_
 rintro m M3 ⟨rfl, x3⟩
 have n3 := x3.n
 have l3 := x3.lo
 have g3 := (x3.old _ (by omega)).trans g1
 have x13 := x1.trans x3
 cases hf : fewB g with
 | false =>
  simp (disch := try exact dz) only [↓bxD, bA, simprocAttr]
 | true =>
  by_cases h16 : 16 < g.rules.length
  ·have d0 : decide ((16 : Int) < (g.rules.length : Int)) = true := decide_eq_true (by omega)
   simp (disch := try exact dz) only [↓bxD, bA, simprocAttr, g3, g_3', hr2, d0]
  ·have d0 : decide ((16 : Int) < (g.rules.length : Int)) = false := decide_eq_false (by omega)
   simp (disch := try exact dz) only [↓bxD, bA, simprocAttr, g3, g_3', hr2, d0]
   show Wp fns K4_0 _ _ _
   unfold K4_0
   simp (disch := try exact dz) only [↓bxD, bA, simprocAttr, g3, g_N]
   refine bindP_call (pstates_any (h.ext x13) (by omega)) ?_
   rintro m4 M4 ⟨x4, r, hr, hm4⟩
   have n4 := x4.n
   have l4 := x4.lo
   have g4 := (x4.old _ (by omega)).trans g3
   have hval : ∃ v w, m4 = .tp [v, w] ∧ w = .i .i64 r.1 ∧ ((r.2 = none ∧ v = .nils) ∨ ∃ x, r.2 = some x ∧ StRows M4 v x.2 x.1) := by
    unfold StaRows at hm4
    cases hx : r.2 with
    | none => rw [hx] at hm4; exact ⟨_, _, hm4, rfl, .inl ⟨rfl, rfl⟩⟩
    | some x => rw [hx] at hm4; obtain ⟨v, e1, e2⟩ := hm4; exact ⟨_, _, e1, rfl, .inr ⟨x, rfl, e2⟩⟩
   obtain ⟨v, w, rfl, rfl, hv⟩ := hval
   simp (disch := try exact dz) only [↓bxD, bA, simprocAttr, g4, g_N]
   refine bindP_call (rstates_any ((h.ext x13).ext x4) (by omega)) ?_
   rintro m5 M5 ⟨x5, r', hr', hm5⟩
   obtain rfl := staIs_ext hr hr'
   have n5 := x5.n
   have l5 := x5.lo
   have hval : ∃ v w, m5 = .tp [v, w] ∧ w = .i .i64 r.1 ∧ ((r.2 = none ∧ v = .nils) ∨ ∃ x, r.2 = some x ∧ StRows M5 v x.2 x.1) := by
    unfold StaRows at hm5
    cases hx : r.2 with
    | none => rw [hx] at hm5; exact ⟨_, _, hm5, rfl, .inl ⟨rfl, rfl⟩⟩
    | some x => rw [hx] at hm5; obtain ⟨v, e1, e2⟩ := hm5; exact ⟨_, _, e1, rfl, .inr ⟨x, rfl, e2⟩⟩
   obtain ⟨v', w', rfl, rfl, hv'⟩ := hval
   have key : ∃ ks done, StRows M5 v ks done ∧ StRows M5 v' ks done ∧ (∀ d ∈ done, d.1.length ≤ 1000 ∧ d.2.length ≤ 1000) ∧ ks.length ≤ 100000 := by
    rcases hv with ⟨e, rfl⟩ | ⟨x, e, hv⟩
    ·rcases hv' with ⟨_, rfl⟩ | ⟨x, e', _⟩
     ·exact ⟨[], [], ⟨[], ⟨fun e he => (by cases he), .inl ⟨rfl, rfl⟩⟩, rfl, rfl, fun i e N d he => (by simp at he)⟩, ⟨[], ⟨fun e he => (by cases he), .inl ⟨rfl, rfl⟩⟩, rfl, rfl, fun i e N d he => (by simp at he)⟩, fun d hd => (by simp at hd), by simp⟩
     ·rw [e] at e'; cases e'
    ·rcases hv' with ⟨e', _⟩ | ⟨x', e', hv'⟩
     ·rw [e] at e'; cases e'
     ·rw [e] at e'
      injection e' with e'
      subst e'
      obtain ⟨z, hz, hcase⟩ := hr
      have hx : ∃ n, x = stN g n ∧ (stN g n).2.length = n ∧ n ≤ 2000 ∧ (formP g).2 = 0 := by
       rcases hcase with ⟨_, hc⟩ | ⟨hz0, y, hy, hc⟩
       ·rw [hc] at e; cases e
       ·rw [hc] at e
        simp only at e
        subst e
        cases hy with
        | @all n h1 h2 =>
         refine ⟨n, rfl, h1, h2, ?_⟩
         rcases hz with ⟨h1, h2⟩ | ⟨h1, _⟩
         ·exact absurd (by rw [h2] at hz0; exact hz0) h1
         ·exact h1
      obtain ⟨n, rfl, hn1, hn2, hform⟩ := hx
      have hok := form_ok hform
      have hk40 := hok.k2
      have hn40 := hok.n2
      obtain ⟨els, p1, p2, p3, p4⟩ := hv
      refine ⟨_, _, ⟨els, p1.ext x5, p2, p3, fun i e N d a b c => ?_⟩, hv', fun d hd => ?_, by omega⟩
      ·obtain ⟨vi, v1, v2, q1, q2, q3, q4⟩ := p4 i e N d a b c
       exact ⟨vi, v1, v2, q1, q2.ext x5, IntRow.ext q3 x5, IntRow.ext q4 x5⟩
      ·have := stN_small n d hd
       omega
   obtain ⟨ks, done, k1, k2, k3, k4⟩ := key
   simp (disch := try exact dz) only [↓bxD, bA, simprocAttr]
   refine bindP_call (same_states k1 k2 k3 k4 (by omega)) ?_
   rintro m6 M6 ⟨rfl, x6⟩
   simp (disch := try exact dz) only [↓bxD, bA, simprocAttr]
   refine bindP_call num_any ?_
   rintro m7 M7 ⟨rfl, rfl⟩
   simp (disch := try exact dz) only [↓bxD, bA, simprocAttr]
end Go.Proofs.YtpdcahaggacacaaDoor.K
set_option linter.unusedSimpArgs false
set_option linter.unusedVariables false
set_option maxRecDepth 100000
namespace Go.Proofs.YtpdcahaggacacaaDoor.Ev
open Go
theorem wf_of {z : Int} (h : (Lit.int .i64 z).wf = true) : Wf64 z := by
 simp only [Lit.wf, Bool.and_eq_true, decide_eq_true_eq] at h
 exact h
theorem list_of {α : Type} {F : α → List MV} {W : α → Prop} : ∀ {es : List (List MV)}, (∀ x ∈ es, ∃ a, x = F a ∧ W a) → ∃ l : List α, es = l.map F ∧ ∀ a ∈ l, W a
 | [], _ => ⟨[], rfl, fun a ha => by cases ha⟩
 | x :: es, h => by
  obtain ⟨a, rfl, wa⟩ := h x List.mem_cons_self
  obtain ⟨l, rfl, hl⟩ := list_of fun y hy => h y (List.mem_cons_of_mem _ hy)
  exact ⟨a :: l, rfl, fun b hb => (List.mem_cons.1 hb).elim (fun e => e ▸ wa) (hl b)⟩
theorem list_of2 {α : Type} {R : List MV → α → Prop} : ∀ {es : List (List MV)}, (∀ x ∈ es, ∃ a, R x a) → ∃ l : List α, es.length = l.length ∧ (∀ (i : Nat) e a, es[i]? = some e → l[i]? = some a → R e a) ∧ ∀ a ∈ l, ∃ x, R x a
 | [], _ => ⟨[], rfl, fun i e a h => by simp at h, fun a ha => by cases ha⟩
 | x :: es, h => by
  obtain ⟨a, ra⟩ := h x List.mem_cons_self
  obtain ⟨l, hl, hr, hw⟩ := list_of2 fun y hy => h y (List.mem_cons_of_mem _ hy)
  refine ⟨a :: l, by rw [List.length_cons, List.length_cons, hl], fun i e b h1 h2 => ?_, fun b hb => (List.mem_cons.1 hb).elim (fun e => ⟨x, e ▸ ra⟩) (hw b)⟩
  cases i with
  | zero => simp only [List.getElem?_cons_zero, Option.some.injEq] at h1 h2; subst h1 h2; exact ra
  | succ i => exact hr i e b (by simpa using h1) (by simpa using h2)
variable {P : Program} {M : MH}
theorem typed_int {n : Nat} {e : TypeId} (hu : P.underlying e = some (.int .i64)) {x : List MV} (h : Typed P M n e x) : ∃ z, x = [.i .i64 z] ∧ Wf64 z := by
 cases n with
 | zero => exact h.elim
 | succ n =>
  simp only [Typed, hu] at h
  obtain ⟨z, rfl, hz⟩ := h
  exact ⟨z, rfl, wf_of hz⟩
theorem typed_ints {n : Nat} {t e : TypeId} (ht : P.underlying t = some (.slice e)) (hu : P.underlying e = some (.int .i64)) (hc : P.cellsOf e = 1) {x : List MV} (h : Typed P M n t x) : ∃ v l, x = [v] ∧ IntRow M v l ∧ (∀ z ∈ l, Wf64 z) ∧ l.length ≤ 9223372036854775807 := by
 cases n with
 | zero => exact h.elim
 | succ n =>
  simp only [Typed, ht] at h
  obtain ⟨v, es, rfl, hr, hm, hl⟩ := h
  obtain ⟨l, rfl, hw⟩ := list_of (F := fun z => [MV.i .i64 z]) (W := Wf64) fun x hx => typed_int hu (hl x hx)
  rw [hc] at hr
  rw [List.length_map] at hm
  exact ⟨v, l, rfl, hr, hw, hm⟩
end Go.Proofs.YtpdcahaggacacaaDoor.Ev
namespace Go.Proofs.YtpdcahaggacacaaDoor
open Go Ev
theorem rule_of {M : MH} {n : Nat} {x : List MV} (h : Typed Tryd.prog M n 42 x) : ∃ r : Int × List Int × Int, RuleAt M x r ∧ Wf64 r.1 ∧ (∀ z ∈ r.2.1, Wf64 z) ∧ Wf64 r.2.2 ∧ r.2.1.length ≤ 9223372036854775807 := by
 cases n with
 | zero => exact h.elim
 | succ n =>
  simp only [Typed, Tryd.underlying42] at h
  simp only [TypedFs] at h
  obtain ⟨_, _, rfl, h1, _, _, rfl, h2, _, _, rfl, h3, rfl⟩ := h
  obtain ⟨a, rfl, wa⟩ := typed_int Tryd.underlying3 h1
  obtain ⟨v, l, rfl, hr, hw, hm⟩ := typed_ints Tryd.underlying24 Tryd.underlying3 (by kernel_rfl) h2
  obtain ⟨b, rfl, wb⟩ := typed_int Tryd.underlying3 h3
  exact ⟨(a, l, b), ⟨v, rfl, hr⟩, wa, hw, wb, hm⟩
theorem trip_of {M : MH} {n : Nat} {x : List MV} (h : Typed Tryd.prog M n 81 x) : ∃ f : Int × Int × Int, x = trip f ∧ Wf64 f.1 ∧ Wf64 f.2.1 ∧ Wf64 f.2.2 := by
 cases n with
 | zero => exact h.elim
 | succ n =>
  simp only [Typed, Tryd.underlying81] at h
  simp only [TypedN] at h
  obtain ⟨_, _, rfl, h1, _, _, rfl, h2, _, _, rfl, h3, rfl⟩ := h
  obtain ⟨a, rfl, wa⟩ := typed_int Tryd.underlying3 h1
  obtain ⟨b, rfl, wb⟩ := typed_int Tryd.underlying3 h2
  obtain ⟨c, rfl, wc⟩ := typed_int Tryd.underlying3 h3
  exact ⟨(a, b, c), rfl, wa, wb, wc⟩
theorem gram_of {M : MH} {m : MV} (hx : Ext (Mtab tabZ) M) (h : ArgTyped Tryd.prog M 26 m) : ∃ g vr vf vc vk es, m = .ag (gcs g vr vf vc vk) ∧ GrAt M vr vf vc vk es g := by
 obtain ⟨n, cs, h1, h2⟩ := h
 simp only [Tryd.underlying26] at h2
 subst h2
 cases n with
 | zero => exact h1.elim
 | succ n =>
  simp only [Typed, Tryd.underlying26] at h1
  simp only [TypedFs] at h1
  obtain ⟨_, _, rfl, k1, _, _, rfl, k2, _, _, rfl, k3, _, _, rfl, k4, _, _, rfl, k5, _, _, rfl, k6, _, _, rfl, k7, rfl⟩ := h1
  obtain ⟨a, rfl, wa⟩ := typed_int Tryd.underlying3 k1
  obtain ⟨b, rfl, wb⟩ := typed_int Tryd.underlying3 k2
  obtain ⟨c, rfl, wc⟩ := typed_int Tryd.underlying3 k3
  obtain ⟨vc, lc, rfl, rc, hwc, hmc⟩ := typed_ints Tryd.underlying24 Tryd.underlying3 (by kernel_rfl) k6
  obtain ⟨vk, lk, rfl, rk, hwk, hmk⟩ := typed_ints Tryd.underlying24 Tryd.underlying3 (by kernel_rfl) k7
  cases n with
  | zero => exact k4.elim
  | succ n =>
   simp only [Typed, Tryd.underlying22] at k4
   simp only [Typed, Tryd.underlying23] at k5
   obtain ⟨vr, es, rfl, hr, hrm, hrl⟩ := k4
   obtain ⟨vf, fs, rfl, hf, hfm, hfl⟩ := k5
   obtain ⟨l, hl1, hl2, hl3⟩ := list_of2 fun x hx => rule_of (hrl x hx)
   obtain ⟨fl, rfl, hfw⟩ := list_of (F := trip) (W := fun f => Wf64 f.1 ∧ Wf64 f.2.1 ∧ Wf64 f.2.2) fun x hx => trip_of (hfl x hx)
   rw [show Tryd.prog.cellsOf 42 = 3 from by kernel_rfl] at hr
   rw [show Tryd.prog.cellsOf 81 = 3 from by kernel_rfl] at hf
   rw [List.length_map] at hfm
   refine ⟨⟨a, b, c, l, fl, lc, lk⟩, vr, vf, vc, vk, es, rfl, ⟨⟨hr, hl1, fun i e r h1 h2 => (hl2 i e r h1 h2).1⟩, hf, rc, rk, ⟨wa, wb, wc, fun r hr => ?_, hfw, hwc, hwk, by rw [← hl1]; exact hrm, hfm, hmc, hmk⟩, .of hx⟩⟩
   obtain ⟨x, hx⟩ := hl3 r hr
   exact hx.2
end Go.Proofs.YtpdcahaggacacaaDoor
set_option linter.unusedSimpArgs false
set_option linter.unusedVariables false
namespace Go.Proofs.YtpdcahaggacacaaDoor.K
open Go Ev
set_option maxRecDepth 100000
set_option maxHeartbeats 4000000

theorem al_any {M M' : MH} (hx : Ext (Mtab tabZ) M) (h : Ext M M') : Cp fns 6 [] M' fun m M2 => m = .b true ∧ M2 = M' := Cp_tab (tab := tabZ) (by kernel_rfl) (hx.trans h)
theorem states_model (M : MH) (ms : List MV) (hx : Ext (Mtab tabZ) M) (hlo : M.lo ≤ M.n) (ha : ArgsTyped Tryd.prog M [26] ms) : Cp fns 4 ms M fun m _ => m = .b true := by
 obtain ⟨m, r, rfl, h, rfl⟩ := ha
 obtain ⟨g, vr, vf, vc, vk, es, rfl, hg⟩ := gram_of hx h
 exact law_states hg hlo (fun M' h => al_any hx h)
end Go.Proofs.YtpdcahaggacacaaDoor.K
