/-
 What the claim leans on, part 6: What the places of a pattern are, in short. Conditions: none. The law's own 'takes': one behind the other. Conditions: none. The law's own 'takes': any times. Conditions: none. The law's own 'takes' tells the pattern's language. Conditions: none. The document's reader of patterns: where it stands. Conditions: none. The document's reader: a byte within brackets. Conditions: none. The document's sets: one more byte, one byte, what is special. Conditions: none. The document's patterns of one byte. Conditions: none. Patterns whose blocks are told: what stays when others turn. Conditions: none. The
-/
import Derived.Test.YthklpecigkdkiaaMN5
import Derived.Test.YthklpecigkdkiaaMN3
import Derived.Test.YthklpecigkdkiaaMN4
import Derived.Test.YthklpecigkdkiaaProg
set_option linter.unusedSimpArgs false
set_option linter.unusedVariables false
namespace Go.Proofs.Ythklpecigkdkiaa.K
open Go Ev
set_option maxRecDepth 100000
set_option maxHeartbeats 4000000

structure FIn (st : Bs) : Prop where
 fl : st.fol.length = st.sets.length
 bit : ∀ A ∈ st.fol, ∀ i, A.testBit i = true → i < st.sets.length
theorem FIn.link {st : Bs} {la fi : Nat} (h : FIn st) (hf : ∀ i, fi.testBit i = true → i < st.sets.length) : FIn (linkB st la fi) := by
 refine ⟨by show (linkM _ _ _).length = _; rw [linkM_len]; exact h.fl, fun A hA i hi => ?_⟩
 have hA : A ∈ linkM st.fol la fi := hA
 unfold linkM at hA
 rw [List.mem_mapIdx] at hA
 obtain ⟨k, hk, rfl⟩ := hA
 show i < st.sets.length
 have hm := h.bit _ (List.getElem_mem hk)
 split at hi
 ·exact or_in hm hf i hi
 ·exact hm i hi
theorem FIn.place {st : Bs} (h : FIn st) (s : List MV) : FIn (placeM s st).2 := by
 unfold placeM
 refine ⟨by simp only [List.length_append, List.length_cons, List.length_nil]; rw [h.fl], fun A hA i hi => ?_⟩
 simp only [List.length_append, List.length_cons, List.length_nil]
 rcases List.mem_append.1 hA with hA | hA
 ·have := h.bit A hA i hi; omega
 ·rw [List.mem_singleton.1 hA] at hi
  simp at hi
theorem FIn.rep {op : Int} {q : Pm × Bs} (h : FIn q.2) (hp : InP q.1 q.2.sets.length) : FIn (repP op q).2 := by
 unfold repP
 show FIn (if op = 6 then q.2 else linkB q.2 q.1.la q.1.fi)
 split
 ·exact h
 ·exact h.link hp.1
mutual
theorem partM_fin : ∀ (x : Rx) (st : Bs), FIn st → FIn (partM x st).2
 | .mk op a b c d kids, st, h => by
  rw [partM]
  split
  ·exact h
  split
  ·exact h.place _
  split
  ·exact catM_fin kids _ st h
  split
  ·exact altM_fin kids _ st h
  ·exact rep1M_fin op kids st h
theorem catM_fin : ∀ (l : List Rx) (p : Pm) (st : Bs), FIn st → FIn (catM l p st).2
 | [], p, st, h => by rw [catM]; exact h
 | k :: r, p, st, h => by
  rw [catM]
  exact catM_fin r _ _ ((partM_fin k st h).link (partM_in k st).1)
theorem altM_fin : ∀ (l : List Rx) (p : Pm) (st : Bs), FIn st → FIn (altM l p st).2
 | [], p, st, h => by rw [altM]; exact h
 | k :: r, p, st, h => by
  rw [altM]
  exact altM_fin r _ _ (partM_fin k st h)
theorem rep1M_fin : ∀ (op : Int) (l : List Rx) (st : Bs), FIn st → FIn (rep1M op l st).2
 | op, [], st, h => by rw [rep1M]; exact h
 | op, k :: r, st, h => by
  rw [rep1M]
  exact (partM_fin k st h).rep (partM_in k st)
end
theorem part_fin (x : Rx) : FIn (partM x ⟨[], []⟩).2 := partM_fin x _ ⟨rfl, fun A hA => by cases hA⟩
theorem part_okq (x : Rx) : OkQ (partM x ⟨[], []⟩) := ⟨partM_st4 x _ (fun s hs => by cases hs), (partM_in x _).1, (part_fin x).bit⟩
theorem PosAt.pv {lo : Nat} {M : MH} {m : MV} {p : Pm} {b : Bs} (h : PosAt lo M m p b) : ∃ e, m = .ag e ∧ e.length = 5 ∧ PvAt M e (p, b) := by
 obtain ⟨vs, vf, vl, vo, rfl, h1, h2, h3, es, h4, h5, h6⟩ := h
 rw [List.length_map] at h5
 refine ⟨_, rfl, rfl, vs, vf, vl, vo, es, rfl, h1.row, h2.row, h3.row, h4.row, h5, fun k x A hx hA => (h6 k x _ hx ?_).row⟩
 rw [List.getElem?_map, hA]
 rfl
def lenTV (x : MV) : Option MV := match x with
 | .s t => some (.i .i64 (t.size : Int))
 | _ => none
theorem ev_lenT (c : CallM) (f : Fr) (M : MH) (x : X) : Iop.ev c f M (.lenT x) = o1 (lenTV (x.ev f)) M := by
 show (match x.ev f with | .s t => _ | _ => _) = _
 cases x.ev f <;> rfl
theorem lenT_s (t : ByteArray) : lenTV (.s t) = some (.i .i64 (t.size : Int)) := rfl
structure RdAt (M : MH) (rx : Nat) (s : ByteArray) (k : Nat) (e : Int) (c : Ev.T MV) (bad : Int) : Prop where
 g : M.get rx = some (.cs false 4 c)
 at_ : At c 0 [.s s, .i .i64 (k : Int), .i .i64 e, .i .i64 bad]
 lt : rx < M.n
theorem RdAt.ext {M M' : MH} {rx : Nat} {s : ByteArray} {k : Nat} {e bad : Int} {c : Ev.T MV} (h : RdAt M rx s k e c bad) (hx : Ext M M') : RdAt M' rx s k e c bad := ⟨(hx.old _ h.lt).trans h.g, h.at_, Nat.lt_of_lt_of_le h.lt hx.n⟩
theorem over_any {M : MH} {rx : Nat} {s : ByteArray} {k : Nat} {e bad : Int} {c : Ev.T MV} (hlo : M.lo ≤ M.n) (h : RdAt M rx s k e c bad) : Cp fns 20 [.p rx 0] M fun m M' => m = .b (decide (s.size ≤ k)) ∧ Ext M M' := by
 have g := h.g
 have c0 : cget c 0 = some (.s s) := h.at_ 0 _ rfl
 have c1 : cget c 1 = some (.i .i64 (k : Int)) := h.at_ 1 _ rfl
 refine Cp_call (fn := F20) (by kernel_rfl) (Nat.le_of_ble_eq_true rfl) ?_
 show Wp fns B20 (T.set q0 (some (.p rx 0)) T.lf) M _
 unfold B20
 simp (disch := first | omega | assumption) only [↓bxD, bA, reduceCtorEq, g, c0, c1, nck_p, Nat.zero_add, ev_lenT, lenT_s]
 refine Wp_dreg_of hlo ?_
 simp (disch := first | omega | assumption) only [↓bxD, bA, reduceCtorEq, g, c0, c1, nck_p, Nat.zero_add, ev_lenT, lenT_s]
 show Wp fns IC.ret _ _ _
 simp (disch := first | omega | assumption) only [↓bxD, bA, reduceCtorEq, g, c0, c1, nck_p, Nat.zero_add, ev_lenT, lenT_s]
 refine ⟨?_, .refl _⟩
 rw [show decide ((s.size : Int) ≤ (k : Int)) = decide (s.size ≤ k) from decide_eq_decide.2 (by omega)]
theorem fail_any {M : MH} {rx : Nat} {s : ByteArray} {k : Nat} {e bad z p : Int} {c : Ev.T MV} (hlo : M.lo ≤ rx) (h : RdAt M rx s k e c bad) : Cp fns 21 [.p rx 0, .i .i64 z, .i .i64 p] M fun _ M' => (∃ c' bad', RdAt M' rx s k (if e = 0 then z else e) c' bad') ∧ Chg (fun j => j = rx) M M' := by
 have g := h.g
 have c2 : cget c 2 = some (.i .i64 e) := h.at_ 2 _ rfl
 refine Cp_call (fn := F21) (by kernel_rfl) (Nat.le_of_ble_eq_true rfl) ?_
 show Wp fns B21 (T.set q2 (some (.i .i64 p)) (T.set q1 (some (.i .i64 z)) (T.set q0 (some (.p rx 0)) T.lf))) M _
 unfold B21
 have hb2 : hasB c 1 2 = true := has_at h.at_ (Nat.zero_le _) (by show 2 + 1 ≤ 0 + 4; omega)
 have hA1 : At (setN [MV.i .i64 z] 2 c) 0 [.s s, .i .i64 (k : Int), .i .i64 z, .i .i64 bad] := h.at_.set' (k := 2) 2 (.i .i64 z) (by show 2 < 4; omega) rfl
 have hA2 : At (setN [MV.i .i64 p] 3 (setN [MV.i .i64 z] 2 c)) 0 [.s s, .i .i64 (k : Int), .i .i64 z, .i .i64 p] := hA1.set' (k := 3) 3 (.i .i64 p) (by show 3 < 4; omega) rfl
 have hb3 : hasB (setN [MV.i .i64 z] 2 c) 1 3 = true := has_at hA1 (Nat.zero_le _) (by show 3 + 1 ≤ 0 + 4; omega)
 by_cases he : e = 0
 ·subst he
  simp (disch := first | omega | assumption) only [↓bxD, bA, reduceCtorEq, g, c2, nck_p, Nat.zero_add, hb2, hb3, cells_i, set_same]
  simp (disch := first | omega | assumption | (simp only [bZ, stOk, Nat.reduceBEq, Nat.reduceEqDiff, Nat.reduceAdd] <;> omega) | ((try apply has_setN); apply has_ofL; simp only [bxL]; omega)) only [↓bxD, bA, Nat.reduceBEq, reduceCtorEq, Nat.reduceAdd, Nat.reduceSub, Nat.reduceMul, Nat.reduceLeDiff, Nat.reduceLT, g, c2, nck_p, Nat.zero_add, hb2, hb3, cells_i, set_same, resL_nil]
  refine ⟨⟨_, p, ?_, hA2, h.lt⟩, ((Chg.refl (fun j => j = rx) M).set _ (.inl rfl)).set _ (.inl rfl)⟩
  exact set_same _ _
 ·have hd : decide (e = 0) = false := decide_eq_false he
  simp (disch := first | omega | assumption) only [↓bxD, bA, reduceCtorEq, g, c2, nck_p, Nat.zero_add, hd]
  simp (disch := first | omega | assumption) only [↓bxD, bA, reduceCtorEq, g, c2, nck_p, Nat.zero_add, hd, resL_nil]
  rw [if_neg he]
  exact ⟨⟨c, bad, h⟩, .refl _ _⟩
theorem is_any {M : MH} {rx : Nat} {s : ByteArray} {k q : Nat} {e bad : Int} {c : Ev.T MV} (hlo : M.lo ≤ M.n) (h : RdAt M rx s k e c bad) : Cp fns 39 [.p rx 0, .i .u8 (q : Int)] M fun m M' => (∃ r, m = .b r ∧ (r = true → k < s.size)) ∧ Ext M M' := by
 refine Cp_call (fn := F39) (by kernel_rfl) (Nat.le_of_ble_eq_true rfl) ?_
 show Wp fns B39 (T.set q1 (some (.i .u8 (q : Int))) (T.set q0 (some (.p rx 0)) T.lf)) M _
 unfold B39
 simp (disch := first | omega | assumption) only [↓bxD, bA, reduceCtorEq]
 refine Wp_dreg_of hlo ?_
 simp (disch := first | omega | assumption) only [↓bxD, bA, reduceCtorEq]
 refine bindP_call (over_any hlo h) ?_
 rintro m M2 ⟨rfl, hx2⟩
 have h2 := h.ext hx2
 have g := h2.g
 have c0 : cget c 0 = some (.s s) := h.at_ 0 _ rfl
 have c1 : cget c 1 = some (.i .i64 (k : Int)) := h.at_ 1 _ rfl
 by_cases hk : s.size ≤ k
 ·have hd : decide (s.size ≤ k) = true := decide_eq_true hk
  simp (disch := first | omega | assumption) only [↓bxD, bA, reduceCtorEq, hd]
  show Wp fns IC.ret _ _ _
  simp (disch := first | omega | assumption) only [↓bxD, bA, reduceCtorEq, hd]
  exact ⟨⟨_, rfl, fun q => (by cases q)⟩, hx2⟩
 ·have hd : decide (s.size ≤ k) = false := decide_eq_false hk
  have hk' : k < s.data.toList.length := by rw [Array.length_toList]; exact Nat.lt_of_not_le hk
  have hix : puM .ixT (.s s) (.i .i64 (k : Int)) = some (.i .u8 (s.data.toList[k].toNat : Int)) := by
   show (match s.data.toList[k]? with | some c => some (MV.i .u8 (.ofNat c.toNat)) | none => none) = _
   rw [List.getElem?_eq_getElem hk']
   rfl
  simp (disch := first | omega | assumption) only [↓bxD, bA, reduceCtorEq, hd, g, c0, c1, hix, nck_p, Nat.zero_add]
  show Wp fns IC.ret _ _ _
  simp (disch := first | omega | assumption) only [↓bxD, bA, reduceCtorEq, hd, g, c0, c1, hix, nck_p, Nat.zero_add]
  exact ⟨⟨_, rfl, fun _ => Nat.lt_of_not_le hk⟩, hx2⟩
def Went (M M' : MH) (rx : Nat) (s : ByteArray) (k : Nat) (e : Int) (k' : Nat) (e' : Int) : Prop := (∃ c bad, RdAt M' rx s k' e' c bad) ∧ k ≤ k' ∧ k' ≤ s.size ∧ (e ≠ 0 → e' ≠ 0) ∧ Chg (fun j => j = rx) M M'
theorem RdAt.on {M : MH} {rx : Nat} {s : ByteArray} {k : Nat} {e bad : Int} {c : Ev.T MV} (h : RdAt M rx s k e c bad) (k1 : Nat) : RdAt (M.set rx (some (.cs false 4 (setN [MV.i .i64 (k1 : Int)] 1 c)))) rx s k1 e (setN [MV.i .i64 (k1 : Int)] 1 c) bad := ⟨set_same _ _, h.at_.set' (k := 1) 1 _ (by show 1 < 4; omega) rfl, h.lt⟩
theorem byte1_any {M : MH} {rx : Nat} {s : ByteArray} {k : Nat} {e bad : Int} {c : Ev.T MV} (hlo : M.lo ≤ rx) (hs : s.size ≤ 1000) (hk : k ≤ s.size) (h : RdAt M rx s k e c bad) : Cp fns 75 [.p rx 0] M fun m M' => ∃ (q k' : Nat) (e' : Int), m = .i .u8 (q : Int) ∧ q < 256 ∧ Went M M' rx s k e k' e' ∧ (e' = 0 → k < k') := by
 have hlt := h.lt
 have rest : ∀ (f : Fr) (M3 : MH) (k1 : Nat) (c3 : T MV) (bad3 : Int), X.ev f (.t q0) = .p rx 0 → RdAt M3 rx s k1 e c3 bad3 → Chg (fun j => j = rx) M M3 → k ≤ k1 → k1 ≤ s.size → Wp fns K75_1 f M3 (retQ F75 fun m M' => ∃ (q k' : Nat) (e' : Int), m = .i .u8 (q : Int) ∧ q < 256 ∧ Went M M' rx s k e k' e' ∧ (e' = 0 → k < k')) := by
  intro f M3 k1 c3 bad3 h0 h3 hc3 hk1 hk1s
  simp only [q0] at h0
  have hn3 := hc3.n
  have hl3 := hc3.lo
  unfold K75_1
  simp (disch := first | omega | assumption) only [↓bxD, bA, reduceCtorEq, h0]
  refine bindP_call (over_any (by omega) h3) ?_
  rintro m M4 ⟨rfl, hx4⟩
  have h4 := h3.ext hx4
  have hc4 := hc3.trans (.of hx4)
  have hl4 := hx4.lo
  have hn4 := hx4.n
  have c1 : cget c3 1 = some (.i .i64 (k1 : Int)) := h3.at_ 1 _ rfl
  have c0 : cget c3 0 = some (.s s) := h3.at_ 0 _ rfl
  have g4 := h4.g
  by_cases ho : s.size ≤ k1
  ·have hd : decide (s.size ≤ k1) = true := decide_eq_true ho
   simp (disch := first | omega | assumption) only [↓bxD, bA, reduceCtorEq, h0, hd, g4, c1, nck_p, Nat.zero_add]
   refine bindP_call (fail_any (z := 2) (by omega) h4) ?_
   rintro m M5 ⟨⟨c5, bad5, h5⟩, hc5⟩
   simp (disch := first | omega | assumption) only [↓bxD, bA, reduceCtorEq, h0, hd, g4, c1, nck_p, Nat.zero_add]
   refine ⟨0, k1, _, rfl, by omega, ⟨⟨c5, bad5, h5⟩, hk1, hk1s, fun q => by rw [if_neg q]; exact q, hc4.trans hc5⟩, fun q => ?_⟩
   by_cases he : e = 0
   ·rw [if_pos he] at q; cases q
   ·rw [if_neg he] at q; exact (he q).elim
  ·have hd : decide (s.size ≤ k1) = false := decide_eq_false ho
   have hb1 : hasB c3 1 1 = true := has_at h3.at_ (Nat.zero_le _) (by show 1 + 1 ≤ 0 + 4; omega)
   have hon := h4.on (k1 + 1)
   simp (disch := first | omega | assumption) only [↓bxD, bA, reduceCtorEq, h0, hd, g4, c1, hb1, nck_p, Nat.zero_add, cells_i]
   show Wp fns K75_0 _ _ _
   unfold K75_0
   simp (disch := first | omega | assumption | (simp only [bZ, stOk, Nat.reduceBEq, Nat.reduceEqDiff, Nat.reduceAdd] <;> omega) | ((try apply has_setN); apply has_ofL; simp only [bxL]; omega)) only [↓bxD, bA, Nat.reduceBEq, reduceCtorEq, Nat.reduceAdd, Nat.reduceSub, Nat.reduceMul, Nat.reduceLeDiff, Nat.reduceLT, h0, hd, g4, c1, hb1, nck_p, Nat.zero_add, cells_i]
   have hc5 := hc4.set (some (.cs false 4 (setN [MV.i .i64 ((k1 + 1 : Nat) : Int)] 1 c3))) (id := rx) (.inl rfl)
   have hcast : ((k1 + 1 : Nat) : Int) = (k1 : Int) + 1 := by omega
   rw [hcast] at hon hc5
   generalize setN [MV.i .i64 ((k1 : Int) + 1)] 1 c3 = c5 at hon hc5 ⊢
   generalize MH.set M4 rx _ = M5 at hon hc5 ⊢
   have hl5 := hc5.lo
   have hn5 := hc5.n
   have g5 := hon.g
   have d0 : cget c5 0 = some (.s s) := hon.at_ 0 _ rfl
   have d1 : cget c5 1 = some (.i .i64 ((k1 + 1 : Nat) : Int)) := hon.at_ 1 _ rfl
   have hk' : k1 < s.data.toList.length := by rw [Array.length_toList]; exact Nat.lt_of_not_le ho
   have hix : puM .ixT (.s s) (.i .i64 (k1 : Int)) = some (.i .u8 (s.data.toList[k1].toNat : Int)) := by
    show (match s.data.toList[k1]? with | some c => some (MV.i .u8 (.ofNat c.toNat)) | none => none) = _
    rw [List.getElem?_eq_getElem hk']
    rfl
   rw [hcast] at d1
   refine Wp_dreg_of (by omega) ?_
   simp (disch := first | omega | assumption) only [↓bxD, bA, reduceCtorEq, h0, g5, d0, d1, hix, nck_p, Nat.zero_add, (show (k1 : Int) + 1 - 1 = (k1 : Int) by omega)]
   show Wp fns IC.ret _ _ _
   simp (disch := first | omega | assumption) only [↓bxD, bA, reduceCtorEq, h0, g5, d0, d1, hix, nck_p, Nat.zero_add, (show (k1 : Int) + 1 - 1 = (k1 : Int) by omega)]
   exact ⟨_, k1 + 1, e, rfl, UInt8.toNat_lt _, ⟨⟨c5, _, hon⟩, by omega, by omega, id, hc5⟩, fun _ => by omega⟩
 refine Cp_call (fn := F75) (by kernel_rfl) (Nat.le_of_ble_eq_true rfl) ?_
 show Wp fns B75 (T.set q0 (some (.p rx 0)) T.lf) M _
 unfold B75
 simp (disch := first | omega | assumption) only [↓bxD, bA, reduceCtorEq]
 refine bindP_call (is_any (q := 92) (by omega) h) ?_
 rintro m M2 ⟨⟨r, rfl, hr⟩, hx2⟩
 have h2 := h.ext hx2
 have hx2l := hx2.lo
 cases r with
 | false =>
  simp (disch := first | omega | assumption | (simp only [bZ, stOk, Nat.reduceBEq, Nat.reduceEqDiff, Nat.reduceAdd] <;> omega) | ((try apply has_setN); apply has_ofL; simp only [bxL]; omega)) only [↓bxD, bA, Nat.reduceBEq, reduceCtorEq, Nat.reduceAdd, Nat.reduceSub, Nat.reduceMul, Nat.reduceLeDiff, Nat.reduceLT]
  exact rest _ _ k c bad (by simp only [bxP, bxQ, bxQ2, reduceCtorEq]) h2 (.of hx2) (Nat.le_refl _) hk
 | true =>
  have hlt2 := hr rfl
  have g2 := h2.g
  have c1 : cget c 1 = some (.i .i64 (k : Int)) := h.at_ 1 _ rfl
  have hb1 : hasB c 1 1 = true := has_at h.at_ (Nat.zero_le _) (by show 1 + 1 ≤ 0 + 4; omega)
  simp (maxSteps := 4000000) (disch := first | omega | assumption | (simp only [bxS, bxV, stOk, Nat.reduceBEq, Nat.reduceEqDiff, Nat.reduceAdd]; done) | (simp only [bxU]; omega) | ((try apply has_setN); apply has_ofL; simp only [bxL]; omega)) only [↓bxD, bxP, bxQ, bxQ2, Nat.reduceBEq, reduceCtorEq, Nat.reduceAdd, Nat.reduceSub, Nat.reduceMul, Nat.reduceLeDiff, Nat.reduceLT, bxR, g2, c1, hb1, nck_p, Nat.zero_add, cells_i]
  exact rest _ _ (k + 1) _ bad (by simp only [bxP, bxQ, bxQ2, reduceCtorEq, g2, c1, hb1, nck_p, Nat.zero_add, cells_i]) (h2.on (k + 1)) ((Chg.of hx2).set _ (.inl rfl)) (by omega) hlt2
theorem special_any {M : MH} {q : Nat} : Cp fns 73 [.i .u8 (q : Int)] M fun m M' => (∃ r, m = .b r) ∧ M' = M := by
 refine Cp_call (fn := F73) (by kernel_rfl) (Nat.le_of_ble_eq_true rfl) ?_
 show Wp fns B73 (T.set q0 (some (.i .u8 (q : Int))) T.lf) M _
 unfold B73
 have e : ∀ z : Int, binV .eql (.i .u8 (q : Int)) (.i .u8 z) = some (.b (decide ((q : Int) = z))) := fun z => rfl
 by_cases h0 : (q : Int) = 124
 ·have t0 : decide ((q : Int) = 124) = true := decide_eq_true h0
  simp (disch := first | omega | assumption) only [↓bxD, bA, reduceCtorEq, t0]
  exact ⟨_, rfl⟩
 have d0 : decide ((q : Int) = 124) = false := decide_eq_false h0
 by_cases h1 : (q : Int) = 42
 ·have t1 : decide ((q : Int) = 42) = true := decide_eq_true h1
  simp (disch := first | omega | assumption) only [↓bxD, bA, reduceCtorEq, d0, t1]
  exact ⟨_, rfl⟩
 have d1 : decide ((q : Int) = 42) = false := decide_eq_false h1
 by_cases h2 : (q : Int) = 43
 ·have t2 : decide ((q : Int) = 43) = true := decide_eq_true h2
  simp (disch := first | omega | assumption) only [↓bxD, bA, reduceCtorEq, d0, d1, t2]
  exact ⟨_, rfl⟩
 have d2 : decide ((q : Int) = 43) = false := decide_eq_false h2
 by_cases h3 : (q : Int) = 63
 ·have t3 : decide ((q : Int) = 63) = true := decide_eq_true h3
  simp (disch := first | omega | assumption) only [↓bxD, bA, reduceCtorEq, d0, d1, d2, t3]
  exact ⟨_, rfl⟩
 have d3 : decide ((q : Int) = 63) = false := decide_eq_false h3
 by_cases h4 : (q : Int) = 40
 ·have t4 : decide ((q : Int) = 40) = true := decide_eq_true h4
  simp (disch := first | omega | assumption) only [↓bxD, bA, reduceCtorEq, d0, d1, d2, d3, t4]
  exact ⟨_, rfl⟩
 have d4 : decide ((q : Int) = 40) = false := decide_eq_false h4
 by_cases h5 : (q : Int) = 41
 ·have t5 : decide ((q : Int) = 41) = true := decide_eq_true h5
  simp (disch := first | omega | assumption) only [↓bxD, bA, reduceCtorEq, d0, d1, d2, d3, d4, t5]
  exact ⟨_, rfl⟩
 have d5 : decide ((q : Int) = 41) = false := decide_eq_false h5
 by_cases h6 : (q : Int) = 91
 ·have t6 : decide ((q : Int) = 91) = true := decide_eq_true h6
  simp (disch := first | omega | assumption) only [↓bxD, bA, reduceCtorEq, d0, d1, d2, d3, d4, d5, t6]
  exact ⟨_, rfl⟩
 have d6 : decide ((q : Int) = 91) = false := decide_eq_false h6
 by_cases h7 : (q : Int) = 93
 ·have t7 : decide ((q : Int) = 93) = true := decide_eq_true h7
  simp (disch := first | omega | assumption) only [↓bxD, bA, reduceCtorEq, d0, d1, d2, d3, d4, d5, d6, t7]
  exact ⟨_, rfl⟩
 have d7 : decide ((q : Int) = 93) = false := decide_eq_false h7
 simp (disch := first | omega | assumption) only [↓bxD, bA, reduceCtorEq, d0, d1, d2, d3, d4, d5, d6, d7]
 exact ⟨_, rfl⟩
theorem st4_set (a b c d z : Int) {k : Nat} (h : k < 4) : ∃ a' b' c' d', (st4 a b c d).set k (.i .u64 z) = st4 a' b' c' d' := by
 match k, h with
 | 0, _ => exact ⟨z, b, c, d, rfl⟩
 | 1, _ => exact ⟨a, z, c, d, rfl⟩
 | 2, _ => exact ⟨a, b, z, d, rfl⟩
 | 3, _ => exact ⟨a, b, c, z, rfl⟩
theorem with_any' {M : MH} {a b c d : Int} {q : Nat} (hq : q < 256) (hlo : M.lo ≤ M.n) : Cp fns 74 [.ag (st4 a b c d), .i .u8 (q : Int)] M fun m M' => (∃ a b c d, m = .ag (st4 a b c d)) ∧ Ext M M' := by
 refine Cp_call (fn := F74) (by kernel_rfl) (Nat.le_of_ble_eq_true rfl) ?_
 show Wp fns B74 (T.set q1 (some (.i .u8 (q : Int))) (T.set q0 (some (.ag (st4 a b c d))) T.lf)) M _
 unfold B74
 obtain ⟨w, hw⟩ := st4_at a b c d (k := q / 64) (by omega)
 have hU : isU (.ag (st4 a b c d)) = false := rfl
 have hcl : MV.cells (.ag (st4 a b c d)) = st4 a b c d := rfl
 have hlen : (st4 a b c d).length = 4 := rfl
 have e1 := shr_u8 q
 have e2 := and63_u8 hq
 have e4 := cv_u8 (i := q % 64) (by omega)
 obtain ⟨z, e3⟩ : ∃ z, binV .shl (.i .u64 1) (.i .u64 ((q % 64 : Nat) : Int)) = some (.i .u64 z) := by
  refine ⟨wrapF .u64 (1 * ((2 ^ (min ((q % 64 : Nat) : Int).toNat 64) : Nat) : Int)), ?_⟩
  show (bif decide (((q % 64 : Nat) : Int) < 0) then none else some (MV.i .u64 (wrapF .u64 (1 * ((2 ^ (min ((q % 64 : Nat) : Int).toNat 64) : Nat) : Int))))) = _
  rw [decide_eq_false (by omega), cond_false]
 have e6 : binV .or (.i .u64 w) (.i .u64 z) = some (.i .u64 (bitsF .or .u64 w z)) := rfl
 have hA0 : At (ofL (st4 a b c d) 0) 0 (st4 a b c d) := at_ofL _
 have hb1 : hasB (ofL (st4 a b c d) 0) 1 (q / 64) = true := has_at hA0 (Nat.zero_le _) (by show q / 64 + 1 ≤ 0 + 4; omega)
 obtain ⟨a2, b2, c2, d2, h2⟩ := st4_set a b c d (bitsF .or .u64 w z) (k := q / 64) (by omega)
 have hA1 : At (setN [MV.i .u64 (bitsF .or .u64 w z)] (q / 64) (ofL (st4 a b c d) 0)) 0 (st4 a2 b2 c2 d2) := by
  rw [← h2]; exact hA0.set' _ _ (by show q / 64 < 4; omega) (by omega)
 have hg : getN (setN [MV.i .u64 (bitsF .or .u64 w z)] (q / 64) (ofL (st4 a b c d) 0)) 4 0 = some (st4 a2 b2 c2 d2) := hA1.getN
 have hU2 : isU (.ag (st4 a2 b2 c2 d2)) = false := rfl
 have hcl2 : MV.cells (.ag (st4 a2 b2 c2 d2)) = st4 a2 b2 c2 d2 := rfl
 have hlen2 : (st4 a2 b2 c2 d2).length = 4 := rfl
 have hall2 : allOne (st4 a2 b2 c2 d2) = true := rfl
 have hb2 : hasB (ofL [MV.i .u64 0, .i .u64 0, .i .u64 0, .i .u64 0] 0) 4 0 = true := has_ofL _ _ _ (by decide)
 have hg2 : ∀ t, getN (setN (st4 a2 b2 c2 d2) 0 t) 4 0 = some (st4 a2 b2 c2 d2) := fun t => getN_setN (st4 a2 b2 c2 d2) 0 t
 simp (disch := first | omega | assumption | (simp only [bZ, stOk, Nat.reduceBEq, Nat.reduceEqDiff, Nat.reduceAdd] <;> omega) | ((try apply has_setN); apply has_ofL; simp only [bxL]; omega)) only [↓bxD, bA, Nat.reduceBEq, reduceCtorEq, Nat.reduceAdd, Nat.reduceSub, Nat.reduceMul, Nat.reduceLeDiff, Nat.reduceLT, hU, hcl, hlen, hw, e1, e2, e3, e4, e6, Nat.zero_add, Nat.mul_one, hb1, cells_i, hg, map_ag]
 generalize hM1 : MH.set _ _ _ = M1
 have g1 : M1.get (M.n + 1) = some (.cs false 4 (ofL [MV.i .u64 0, .i .u64 0, .i .u64 0, .i .u64 0] 0)) := by
  rw [← hM1, set_ne (by omega)]
  exact push_new (M := M.push _) _
 have hx1 : Ext M M1 := by rw [← hM1]; exact ((Ext.push M _).push' _).set _ (Nat.le_refl _)
 have hl1 : M1.lo = M.lo := hx1.lo
 clear hM1
 have gp : ∀ o1 o2 : MO, ((M.push o1).push o2).get (M.n + 1) = some o2 := fun o1 o2 => push_new (M := M.push o1) o2
 have hst : stW M1 4 (M.n + 1) 0 (.ag (st4 a2 b2 c2 d2)) (some (.cs false 4 (ofL [MV.i .u64 0, .i .u64 0, .i .u64 0, .i .u64 0] 0))) = some (.u, M1.set (M.n + 1) (some (.cs false 4 (setN (st4 a2 b2 c2 d2) 0 (ofL [MV.i .u64 0, .i .u64 0, .i .u64 0, .i .u64 0] 0))))) := stW_cs (by omega) rfl rfl rfl hb2
 simp (disch := first | omega | assumption) only [↓bxD, bA, reduceCtorEq, gp, hst, set_same, res_cN, cNV_p, cNo_cs, get_set, hg2, map_ag]

 exact ⟨⟨_, _, _, _, rfl⟩, hx1.set _ (by omega)⟩
def z6 : List MV := [.i .i64 0, .i .u64 0, .i .u64 0, .i .u64 0, .i .u64 0, .nils]
theorem one_any {M : MH} {q : Nat} (hq : q < 256) (hlo : M.lo ≤ M.n) : Cp fns 71 [.i .u8 (q : Int)] M fun m M' => (∃ a b c d, m = .ag [.i .i64 1, .i .u64 a, .i .u64 b, .i .u64 c, .i .u64 d, .nils]) ∧ Ext M M' := by
 refine Cp_call (fn := F71) (by kernel_rfl) (Nat.le_of_ble_eq_true rfl) ?_
 show Wp fns B71 (T.set q0 (some (.i .u8 (q : Int))) T.lf) M _
 unfold B71
 have hgz : getN (ofL [MV.i .u64 0, .i .u64 0, .i .u64 0, .i .u64 0] 0) 4 0 = some (st4 0 0 0 0) := (at_ofL (st4 0 0 0 0)).getN
 have gp : ∀ o1 o2 : MO, ((M.push o1).push o2).get (M.n + 1) = some o2 := fun o1 o2 => push_new (M := M.push o1) o2
 simp (disch := first | omega | assumption | (simp only [bZ, stOk, Nat.reduceBEq, Nat.reduceEqDiff, Nat.reduceAdd] <;> omega) | ((try apply has_setN); apply has_ofL; simp only [bxL]; omega)) only [↓bxD, bA, Nat.reduceBEq, reduceCtorEq, Nat.reduceAdd, Nat.reduceSub, Nat.reduceMul, Nat.reduceLeDiff, Nat.reduceLT, hgz, gp, map_ag]
 generalize hM1 : (M.push _).push _ = M1
 have g0 : M1.get M.n = some (.cs false 6 (ofL z6 0)) := by rw [← hM1, push_old (by show M.n < M.n + 1; omega)]; exact push_new _
 have hx1 : Ext M M1 := by rw [← hM1]; exact (Ext.push M _).push' _
 have hl1 := hx1.lo
 have hn1 : M1.n = M.n + 2 := by rw [← hM1]; rfl
 clear hM1
 refine bindP_call (with_any' hq (by omega)) ?_
 rintro m M2 ⟨⟨a, b, c, d, rfl⟩, hx2⟩
 have g2 : M2.get M.n = some (.cs false 6 (ofL z6 0)) := (hx2.old _ (by omega)).trans g0
 have hl2 := hx2.lo
 have ff : fillM [(0, 1, MV.i .i64 1), (1, 4, MV.ag (st4 a b c d))] [.i .i64 0, .i .u64 0, .i .u64 0, .i .u64 0, .i .u64 0, .nils] = some [.i .i64 1, .i .u64 a, .i .u64 b, .i .u64 c, .i .u64 d, .nils] := rfl
 have hst : stW M2 6 M.n 0 (.ag [.i .i64 1, .i .u64 a, .i .u64 b, .i .u64 c, .i .u64 d, .nils]) (some (.cs false 6 (ofL z6 0))) = some (.u, M2.set M.n (some (.cs false 6 (setN [.i .i64 1, .i .u64 a, .i .u64 b, .i .u64 c, .i .u64 d, .nils] 0 (ofL z6 0))))) := stW_cs (by omega) rfl rfl rfl (has_ofL _ _ _ (by decide))
 have hg2 : ∀ t, getN (setN [.i .i64 1, .i .u64 a, .i .u64 b, .i .u64 c, .i .u64 d, .nils] 0 t) 6 0 = some [.i .i64 1, .i .u64 a, .i .u64 b, .i .u64 c, .i .u64 d, .nils] := fun t => getN_setN [.i .i64 1, .i .u64 a, .i .u64 b, .i .u64 c, .i .u64 d, .nils] 0 t
 simp (disch := first | omega | assumption) only [↓bxD, bA, reduceCtorEq, g2, ff, hst, set_same, res_cN, cNV_p, cNo_cs, get_set, hg2, map_ag]
 exact ⟨⟨_, _, _, _, rfl⟩, (hx1.trans hx2).set _ (Nat.le_refl _)⟩
theorem cv_byte {i : Nat} (h : i < 256) : cvIV .u8 (.i .i64 (i : Int)) = some (.i .u8 (i : Int)) := by
 show some (MV.i .u8 (wrapF .u8 (i : Int))) = _
 rw [wrapF_eq]
 simp only [IntKind.wrap, IntKind.bits, IntKind.signed]
 simp
 omega
theorem dot_any {M : MH} (hlo : M.lo ≤ M.n) : Cp fns 70 [] M fun m M' => (∃ a b c d, m = .ag (st4 a b c d)) ∧ Ext M M' := by
 refine Cp_call (fn := F70) (by kernel_rfl) (Nat.le_of_ble_eq_true rfl) ?_
 show Wp fns B70 T.lf M _
 unfold B70
 simp (disch := first | omega | assumption | (simp only [bZ, stOk, Nat.reduceBEq, Nat.reduceEqDiff, Nat.reduceAdd] <;> omega) | ((try apply has_setN); apply has_ofL; simp only [bxL]; omega)) only [↓bxD, bA, Nat.reduceBEq, reduceCtorEq, Nat.reduceAdd, Nat.reduceSub, Nat.reduceMul, Nat.reduceLeDiff, Nat.reduceLT]
 generalize hM1 : (M.push _).push _ = M1
 have g0 : M1.get M.n = some (.cs false 4 (ofL (st4 0 0 0 0) 0)) := by rw [← hM1, push_old (by show M.n < M.n + 1; omega)]; exact push_new _
 have g1 : M1.get (M.n + 1) = some (.cs false 4 (ofL (st4 0 0 0 0) 0)) := by rw [← hM1]; exact push_new (M := M.push _) _
 have hx1 : Ext M M1 := by rw [← hM1]; exact (Ext.push M _).push' _
 have hl1 := hx1.lo
 have hn1 : M1.n = M.n + 2 := by rw [← hM1]; rfl
 clear hM1
 refine Wp_inv (σ := Nat) (fun i f M' => i ≤ 256 ∧ f.get q0 = some (.p M.n 0) ∧ X.ev f (.t q1) = .p (M.n + 1) 0 ∧ X.ev f (.t q2) = .i .i64 (i : Int) ∧ Chg (fun j => j = M.n + 1) M1 M' ∧ ∃ t a b c d, M'.get (M.n + 1) = some (.cs false 4 t) ∧ At t 0 (st4 a b c d)) (fun i => 256 - i) ?_ 0 ?_
 ·rintro i f M2 ⟨hi, h0, h1, h2, hc2, t, a, b, c, d, g2, hA⟩
  simp only [q0, q1, q2] at h0 h1 h2
  have hN : getN t 4 0 = some (st4 a b c d) := hA.getN
  have hl2 := hc2.lo
  have hn2 := hc2.n
  unfold L70_2
  simp (disch := first | omega | assumption) only [↓bxD, bA, reduceCtorEq, h1, h2]
  refine condP_split (fun hlt => ?_) (fun hge => ?_)
  ·have hi' : i < 256 := by omega
   have hcv := cv_byte hi'
   simp (disch := first | omega | assumption) only [↓bxD, bA, reduceCtorEq, h1, h2]
   show Wp fns K70_1 _ _ _
   unfold K70_1
   simp (disch := first | omega | assumption) only [↓bxD, bA, reduceCtorEq, h1, h2]
   by_cases h10 : (i : Int) = 10
   ·have hd : decide ((i : Int) = 10) = true := decide_eq_true h10
    have hdn : decide ((i : Int) ≠ 10) = false := decide_eq_false (fun q => q h10)
    simp (disch := first | omega | assumption) only [↓bxD, bA, reduceCtorEq, h0, h1, h2, hd, hdn]
    show Wp fns K70_0 _ _ _
    unfold K70_0
    simp (disch := first | omega | assumption) only [↓bxD, bA, reduceCtorEq, h0, h1, h2, hd, hdn]
    exact ⟨i + 1, by omega, by omega, h0, rfl, hc2, t, a, b, c, d, g2, hA⟩
   ·have hd : decide ((i : Int) = 10) = false := decide_eq_false h10
    have hdn : decide ((i : Int) ≠ 10) = true := decide_eq_true h10
    simp (disch := first | omega | assumption) only [↓bxD, bA, reduceCtorEq, h1, h2, hd, hdn, g2, hN, hcv, map_ag]
    refine bindP_call (with_any' hi' (by omega)) ?_
    rintro m M3 ⟨⟨a3, b3, c3, d3, rfl⟩, hx3⟩
    have hl3 := hx3.lo
    have g3 : M3.get (M.n + 1) = some (.cs false 4 t) := (hx3.old _ (by omega)).trans g2
    have hst : stW M3 4 (M.n + 1) 0 (.ag (st4 a3 b3 c3 d3)) (some (.cs false 4 t)) = some (.u, M3.set (M.n + 1) (some (.cs false 4 (setN (st4 a3 b3 c3 d3) 0 t)))) := stW_cs (by omega) rfl rfl rfl (has_at hA (Nat.zero_le _) (by show 0 + 4 ≤ 0 + 4; omega))
    simp (disch := first | omega | assumption) only [↓bxD, bA, reduceCtorEq, h1, h2, g3, hst]
    show Wp fns K70_0 _ _ _
    unfold K70_0
    simp (disch := first | omega | assumption) only [↓bxD, bA, reduceCtorEq, h1, h2, g3, hst]
    exact ⟨i + 1, by omega, by omega, h0, rfl, (hc2.trans (.of hx3)).set _ (.inl rfl), _, a3, b3, c3, d3, rfl, at_setN _ _ _⟩
  ·have hi' : i = 256 := by omega
   subst hi'
   simp (disch := first | omega | assumption) only [↓bxD, bA, reduceCtorEq, h1, h2]
   have g0' : M2.get M.n = some (.cs false 4 (ofL (st4 0 0 0 0) 0)) := (hc2.old _ (by omega) (by omega)).trans g0
   have hst : stW M2 4 M.n 0 (.ag (st4 a b c d)) (some (.cs false 4 (ofL (st4 0 0 0 0) 0))) = some (.u, M2.set M.n (some (.cs false 4 (setN (st4 a b c d) 0 (ofL (st4 0 0 0 0) 0))))) := stW_cs (by omega) rfl rfl rfl (has_ofL _ _ _ (by decide))
   have hg2 : ∀ t, getN (setN (st4 a b c d) 0 t) 4 0 = some (st4 a b c d) := fun t => getN_setN (st4 a b c d) 0 t
   show Wp fns K70_3 _ _ _
   unfold K70_3
   simp (disch := first | omega | assumption) only [↓bxD, bA, reduceCtorEq, h1, h2, ev_get h0, g2, hN, g0', hst, set_same, res_cN, cNV_p, cNo_cs, get_set, hg2, h0, map_ag]
   exact ⟨⟨_, _, _, _, rfl⟩, ⟨by show M.n ≤ M2.n; omega, by show M2.lo = M.lo; omega, fun j hj => by rw [set_ne (by omega), hc2.old j (by omega) (by omega)]; exact hx1.old j hj⟩⟩
 ·exact ⟨by omega, by simp (disch := first | omega | assumption) only [↓bxD, bA, reduceCtorEq, get_set], by simp only [bA, reduceCtorEq], by simp only [bA, reduceCtorEq] <;> rfl, .refl _ _, _, 0, 0, 0, 0, g1, at_ofL _⟩
mutual
def BlkIn (S : Nat → Prop) (M : MH) : Rx → Nat → Nat → Prop
 | .mk op a b c d kids, id, off => ∃ t kv, M.get id = some (.cs false 6 t) ∧ (S id ∧ id < M.n) ∧ At t off [.i .i64 op, .i .u64 a, .i .u64 b, .i .u64 c, .i .u64 d, kv] ∧ isSl kv = true ∧ slen kv = kids.length ∧ BlksIn S M kids (sid kv) (soff kv)
def BlksIn (S : Nat → Prop) (M : MH) : List Rx → Nat → Nat → Prop
 | [], _, _ => True
 | x :: r, id, off => BlkIn S M x id off ∧ BlksIn S M r id (off + 6)
end
mutual
theorem BlkIn.node {S : Nat → Prop} {M : MH} : ∀ {x : Rx} {id off : Nat}, BlkIn S M x id off → NodeAt M x id off
 | .mk op a b c d kids, id, off, h => by
  unfold BlkIn at h
  unfold NodeAt
  obtain ⟨t, kv, h1, h2, h3, h4, h5, h6⟩ := h
  exact ⟨t, kv, h1, h2.2, h3, h4, h5, h6.nodes⟩
theorem BlksIn.nodes {S : Nat → Prop} {M : MH} : ∀ {l : List Rx} {id off : Nat}, BlksIn S M l id off → NodesAt M l id off
 | [], id, off, h => by unfold NodesAt; trivial
 | x :: r, id, off, h => by
  unfold BlksIn at h
  unfold NodesAt
  exact ⟨h.1.node, h.2.nodes⟩
end
mutual
theorem BlkIn.more {S S' : Nat → Prop} {M M' : MH} (hn : M.n ≤ M'.n) (hS : ∀ j, S j → j < M.n → S' j ∧ M'.get j = M.get j) : ∀ {x : Rx} {id off : Nat}, BlkIn S M x id off → BlkIn S' M' x id off
 | .mk op a b c d kids, id, off, h => by
  unfold BlkIn at h ⊢
  obtain ⟨t, kv, h1, h2, h3, h4, h5, h6⟩ := h
  obtain ⟨k1, k2⟩ := hS id h2.1 h2.2
  exact ⟨t, kv, k2.trans h1, ⟨k1, Nat.lt_of_lt_of_le h2.2 hn⟩, h3, h4, h5, h6.more hn hS⟩
theorem BlksIn.more {S S' : Nat → Prop} {M M' : MH} (hn : M.n ≤ M'.n) (hS : ∀ j, S j → j < M.n → S' j ∧ M'.get j = M.get j) : ∀ {l : List Rx} {id off : Nat}, BlksIn S M l id off → BlksIn S' M' l id off
 | [], id, off, h => by unfold BlksIn; trivial
 | x :: r, id, off, h => by
  unfold BlksIn at h ⊢
  exact ⟨h.1.more hn hS, h.2.more hn hS⟩
end
def ReC (e : List MV) : Prop := ∃ op a b c d kv, e = [.i .i64 op, .i .u64 a, .i .u64 b, .i .u64 c, .i .u64 d, kv] ∧ isSl kv = true
def XIn (S : Nat → Prop) (M : MH) (e : List MV) : Rx → Prop
 | .mk op a b c d kids => ∃ kv, e = [.i .i64 op, .i .u64 a, .i .u64 b, .i .u64 c, .i .u64 d, kv] ∧ isSl kv = true ∧ slen kv = kids.length ∧ BlksIn S M kids (sid kv) (soff kv)
theorem XIn.more {S S' : Nat → Prop} {M M' : MH} {e : List MV} (hn : M.n ≤ M'.n) (hS : ∀ j, S j → j < M.n → S' j ∧ M'.get j = M.get j) {x : Rx} (h : XIn S M e x) : XIn S' M' e x := by
 obtain ⟨op, a, b, c, d, kids⟩ := x
 obtain ⟨kv, h1, h2, h3, h4⟩ := h
 exact ⟨kv, h1, h2, h3, h4.more hn hS⟩
theorem XIn.xat {S : Nat → Prop} {M : MH} {e : List MV} {x : Rx} (h : XIn S M e x) : XAt M (.ag e) x := by
 obtain ⟨op, a, b, c, d, kids⟩ := x
 obtain ⟨kv, h1, h2, h3, h4⟩ := h
 exact ⟨kv, by rw [h1], h2, h3, h4.nodes⟩
theorem ReC.len {e : List MV} (h : ReC e) : e.length = 6 := by
 obtain ⟨op, a, b, c, d, kv, rfl, _⟩ := h; rfl
theorem ReC.one {e : List MV} (h : ReC e) : allOne e = true := by
 obtain ⟨op, a, b, c, d, kv, rfl, h⟩ := h
 cases kv <;> first | rfl | cases h
theorem ReC.stok {e : List MV} (h : ReC e) : stOk 6 (.ag e) = true := by
 obtain ⟨op, a, b, c, d, kv, rfl, h⟩ := h
 cases kv <;> first | rfl | cases h
def XsIn (S : Nat → Prop) (M : MH) : List (List MV) → List Rx → Prop
 | [], [] => True
 | e :: es, x :: xs => XIn S M e x ∧ XsIn S M es xs
 | _, _ => False
theorem XsIn.more {S S' : Nat → Prop} {M M' : MH} (hn : M.n ≤ M'.n) (hS : ∀ j, S j → j < M.n → S' j ∧ M'.get j = M.get j) : ∀ {es : List (List MV)} {xs : List Rx}, XsIn S M es xs → XsIn S' M' es xs
 | [], [], h => trivial
 | e :: es, x :: xs, h => ⟨h.1.more hn hS, XsIn.more hn hS h.2⟩
 | [], _ :: _, h => h.elim
 | _ :: _, [], h => h.elim
theorem XsIn.app {S : Nat → Prop} {M : MH} : ∀ {es : List (List MV)} {xs : List Rx} {e : List MV} {x : Rx}, XsIn S M es xs → XIn S M e x → XsIn S M (es ++ [e]) (xs ++ [x])
 | [], [], e, x, h, k => ⟨k, trivial⟩
 | a :: es, y :: xs, e, x, h, k => ⟨h.1, XsIn.app h.2 k⟩
 | [], _ :: _, _, _, h, _ => h.elim
 | _ :: _, [], _, _, h, _ => h.elim
theorem XsIn.len {S : Nat → Prop} {M : MH} : ∀ {es : List (List MV)} {xs : List Rx}, XsIn S M es xs → es.length = xs.length
 | [], [], _ => rfl
 | _ :: _, _ :: _, h => by rw [List.length_cons, List.length_cons, XsIn.len h.2]
 | [], _ :: _, h => h.elim
 | _ :: _, [], h => h.elim
theorem XsIn.blks {S : Nat → Prop} {M : MH} {id : Nat} {t : Ev.T MV} (hg : M.get id = some (.cs false 6 t)) (hs : S id) (hid : id < M.n) : ∀ {es : List (List MV)} {xs : List Rx} {off : Nat}, XsIn S M es xs → At t off es.flatten → BlksIn S M xs id off
 | [], [], off, _, _ => by unfold BlksIn; trivial
 | e :: es, x :: xs, off, h, hA => by
  unfold BlksIn
  rw [List.flatten_cons] at hA
  obtain ⟨op, a, b, c, d, kids⟩ := x
  obtain ⟨⟨kv, h1, h2, h3, h4⟩, h5⟩ := h
  subst h1
  refine ⟨?_, XsIn.blks hg hs hid h5 hA.right⟩
  unfold BlkIn
  exact ⟨t, kv, hg, ⟨hs, hid⟩, hA.left, h2, h3, h4⟩
 | [], _ :: _, _, h, _ => h.elim
 | _ :: _, [], _, h, _ => h.elim
theorem weiL_app : ∀ (l r : List Rx), weiL (l ++ r) = weiL l + weiL r
 | [], r => by simp [weiL]
 | x :: l, r => by rw [List.cons_append, weiL, weiL, weiL_app l r]; omega
theorem WkL_app : ∀ {l r : List Rx}, WkL l → WkL r → WkL (l ++ r)
 | [], r, _, h => h
 | x :: l, r, h, k => by
  rw [WkL] at h
  rw [List.cons_append, WkL]
  exact ⟨h.1, WkL_app h.2 k⟩
theorem slot_get {f : Fr} {k : Ky} {id off : Nat} (h : X.ev f (.t k) = .p id off) : T.get f k = some (.p id off) := by
 unfold X.ev at h
 simp only at h
 cases e : f.get k with
 | none => rw [e] at h; cases h
 | some v => rw [e] at h; simp only at h; rw [← h]
theorem push2 {M M2 : MH} {a b : MO} (h : (M.push a).push b = M2) : Ext M M2 ∧ M2.n = M.n + 2 ∧ M2.get M.n = some a ∧ M2.get (M.n + 1) = some b := by
 subst h
 refine ⟨(Ext.push M a).trans (.push _ b), rfl, ?_, push_new (M := M.push a) b⟩
 rw [push_old (by show M.n < M.n + 1; omega)]; exact push_new _
structure ClSt (M0 M : MH) (rx : Nat) (s : ByteArray) (k at' : Nat) (e : Int) (f : Fr) : Prop where
 rd : ∃ c bad, RdAt M rx s at' e c bad
 ch : Chg (fun j => j = rx) M0 M
 rx0 : rx < M0.n
 lo : M0.lo ≤ rx
 n : M0.n + 1 < M.n
 g2 : M.get M0.n = some (.cs false 6 (ofL z6 0))
 g3 : ∃ t a b c d, M.get (M0.n + 1) = some (.cs false 4 t) ∧ At t 0 (st4 a b c d)
 k1 : k ≤ at'
 k2 : at' ≤ s.size
 sz : s.size ≤ 1000
 f0 : X.ev f (.t q0) = .p rx 0
 f2 : X.ev f (.t q2) = .p M0.n 0
 f3 : X.ev f (.t q3) = .p (M0.n + 1) 0
 f4 : ∃ b, X.ev f (.t q4) = .b b
theorem ClSt.went {M0 M M' : MH} {rx : Nat} {s : ByteArray} {k at' at2 : Nat} {e e2 : Int} {f f' : Fr} (h : ClSt M0 M rx s k at' e f) (hc : Chg (fun j => j = rx) M M') (hr : ∃ c bad, RdAt M' rx s at2 e2 c bad) (h1 : at' ≤ at2) (h2 : at2 ≤ s.size) (e0 : X.ev f' (.t q0) = X.ev f (.t q0)) (e2' : X.ev f' (.t q2) = X.ev f (.t q2)) (e3 : X.ev f' (.t q3) = X.ev f (.t q3)) (e4 : X.ev f' (.t q4) = X.ev f (.t q4)) : ClSt M0 M' rx s k at2 e2 f' := by
 have hn := h.n
 have hx := h.rx0
 obtain ⟨t, a, b, c, d, g, hA⟩ := h.g3
 exact ⟨hr, h.ch.trans hc, h.rx0, h.lo, Nat.lt_of_lt_of_le hn hc.n, (hc.old _ (by omega) (by omega)).trans h.g2, ⟨t, a, b, c, d, (hc.old _ hn (by omega)).trans g, hA⟩, Nat.le_trans h.k1 h1, h2, h.sz, e0.trans h.f0, e2'.trans h.f2, e3.trans h.f3, by obtain ⟨b, hb⟩ := h.f4; exact ⟨b, e4.trans hb⟩⟩
theorem RdAt.put {M : MH} {rx id : Nat} {s : ByteArray} {k : Nat} {e bad : Int} {c : Ev.T MV} {o : Option MO} (h : RdAt M rx s k e c bad) (hne : id ≠ rx) : RdAt (M.set id o) rx s k e c bad := ⟨by rw [set_ne (Ne.symm hne)]; exact h.g, h.at_, h.lt⟩
theorem ClSt.fill {M0 M M2 : MH} {rx : Nat} {s : ByteArray} {k at' : Nat} {e : Int} {f f' : Fr} (h : ClSt M0 M rx s k at' e f) (x : Ext M M2) {t : Ev.T MV} {a b c d : Int} (hA : At t 0 (st4 a b c d)) (e0 : X.ev f' (.t q0) = X.ev f (.t q0)) (e2' : X.ev f' (.t q2) = X.ev f (.t q2)) (e3 : X.ev f' (.t q3) = X.ev f (.t q3)) (e4 : X.ev f' (.t q4) = X.ev f (.t q4)) : ClSt M0 (M2.set (M0.n + 1) (some (.cs false 4 t))) rx s k at' e f' := by
 have hn := h.n
 have hx := h.rx0
 obtain ⟨c', bad, hr⟩ := h.rd
 exact ⟨⟨c', bad, (hr.ext x).put (by omega)⟩, (h.ch.trans (.of x)).set _ (.inr (by omega)), hx, h.lo, Nat.lt_of_lt_of_le hn x.n, by rw [set_ne (by omega)]; exact (x.old _ (by omega)).trans h.g2, ⟨t, a, b, c, d, set_same _ _, hA⟩, h.k1, h.k2, h.sz, e0.trans h.f0, e2'.trans h.f2, e3.trans h.f3, by obtain ⟨b, hb⟩ := h.f4; exact ⟨b, e4.trans hb⟩⟩
theorem cv_i64 (c : Nat) (h : c < 256) : cvIV .i64 (.i .u8 (c : Int)) = some (.i .i64 (c : Int)) := by
 show some (MV.i .i64 (wrapF .i64 (c : Int))) = _
 rw [wrap_in (by omega) (by omega)]
theorem class_fill {M0 M : MH} {rx : Nat} {s : ByteArray} {k at' lw hg : Nat} {e : Int} {n : Int} {f : Fr} (h : ClSt M0 M rx s k at' e f) (h9 : X.ev f (.t q9) = .i .i64 (lw : Int)) (h7 : X.ev f (.t q7) = .i .u8 (hg : Int)) (hl : lw < 256) (hh : hg < 256) (h5 : X.ev f (.t q5) = .i .i64 n) (Q : Post)
  (hQ : ∀ f' M', ClSt M0 M' rx s k at' e f' → X.ev f' (.t q5) = .i .i64 n → Q .norm f' M') : Wp fns (.loop L72_3) f M (blockQ 2 Q) := by
 refine Wp_inv (σ := Nat) (fun z f' M' => ClSt M0 M' rx s k at' e f' ∧ z ≤ 256 ∧ X.ev f' (.t q9) = .i .i64 (z : Int) ∧ X.ev f' (.t q7) = .i .u8 (hg : Int) ∧ X.ev f' (.t q5) = .i .i64 n) (fun z => 256 - z) ?_ lw ⟨h, by omega, h9, h7, h5⟩
 rintro z f1 M1 ⟨h, hz, h9, h7, h5⟩
 have hq3 := h.f3
 have hn := h.n
 have hcl := h.ch.lo
 have hcn := h.ch.n
 have hlo := h.lo
 have hrx := h.rx0
 obtain ⟨t, a, b, c, d, g, hA⟩ := h.g3
 have hN : getN t 4 0 = some (st4 a b c d) := hA.getN
 simp only [q3, q9, q7, q5] at hq3 h9 h7 h5
 unfold L72_3
 by_cases hle : (z : Int) ≤ (hg : Int)
 ·have d1 : decide ((z : Int) ≤ (hg : Int)) = true := decide_eq_true hle
  have hcv := cv_byte (i := z) (by omega)
  have hcv2 := cv_i64 hg hh
  simp (disch := first | omega | assumption) only [↓bxD, bA, reduceCtorEq, hq3, h9, h7, h5, d1, hcv, hcv2, g, hN]
  show Wp fns K72_2 _ _ _
  unfold K72_2
  simp (disch := first | omega | assumption) only [↓bxD, bA, reduceCtorEq, hq3, h9, h7, h5, d1, hcv, hcv2, g, hN]
  refine bindP_call (with_any' (by omega) (by omega)) ?_
  rintro m M2 ⟨⟨a2, b2, c2, d2, rfl⟩, x2⟩
  have n2 := x2.n
  have l2 := x2.lo
  have g' := (x2.old _ (by omega)).trans g
  have hH : hasB t 4 0 = true := hA.has
  have hS : stW M2 4 (M0.n + 1) 0 (.ag (st4 a2 b2 c2 d2)) (some (.cs false 4 t)) = _ := stW_ok (n := 4) (id := M0.n + 1) (off := 0) (sz := 4) (t := t) (M := M2) (y := .ag (st4 a2 b2 c2 d2)) (by omega) rfl hH
  simp (disch := first | omega | assumption) only [↓bxD, bA, reduceCtorEq, hq3, h9, h7, h5, g', hS]
  show Wp fns K72_1 _ _ _
  unfold K72_1
  simp (disch := first | omega | assumption) only [↓bxD, bA, reduceCtorEq, hq3, h9, h7, h5, g', hS]
  have hA2 : At (setN (st4 a2 b2 c2 d2) 0 t) 0 (st4 a2 b2 c2 d2) := at_setN _ _ _
  exact ⟨z + 1, by omega, h.fill x2 hA2 (by simp only [bA, reduceCtorEq, hq3, h9, h7, h5, g', hS]) (by simp only [bA, reduceCtorEq, hq3, h9, h7, h5, g', hS]) (by simp only [bA, reduceCtorEq, hq3, h9, h7, h5, g', hS]) (by simp only [bA, reduceCtorEq, hq3, h9, h7, h5, g', hS]), by omega, rfl⟩
 ·have d1 : decide ((z : Int) ≤ (hg : Int)) = false := decide_eq_false hle
  have hcv2 := cv_i64 hg hh
  simp (disch := first | omega | assumption) only [↓bxD, bA, reduceCtorEq, hq3, h9, h7, h5, d1, hcv2]
  exact hQ _ _ (h.went (.refl _ _) h.rd (Nat.le_refl _) h.k2 (by simp only [bA, reduceCtorEq, hq3, h9, h7, h5, d1, hcv2]) (by simp only [bA, reduceCtorEq, hq3, h9, h7, h5, d1, hcv2]) (by simp only [bA, reduceCtorEq, hq3, h9, h7, h5, d1, hcv2]) (by simp only [bA, reduceCtorEq, hq3, h9, h7, h5, d1, hcv2])) (by simp only [bA, reduceCtorEq, hq3, h9, h7, h5, d1, hcv2])
def ClPost (s : ByteArray) (rx k : Nat) (M0 : MH) (m : MV) (M' : MH) : Prop := ∃ (e : Int) (k' : Nat) (a b c d : Int), m = .ag [.i .i64 1, .i .u64 a, .i .u64 b, .i .u64 c, .i .u64 d, .nils] ∧ (∃ c bad, RdAt M' rx s k' e c bad) ∧ Chg (fun j => j = rx) M0 M' ∧ k' ≤ s.size + 1 ∧ k < k' ∧ (e = 0 → k' ≤ s.size)
theorem class_end {M0 M : MH} {rx : Nat} {s : ByteArray} {k at' : Nat} {e : Int} {f : Fr} (h : ClSt M0 M rx s k at' e f) (he : e = 0 → at' < s.size) : Wp fns K72_13 f M (retQ F72 (ClPost s rx k M0)) := by
 obtain ⟨c, bad, hr⟩ := h.rd
 have hq0 := h.f0
 have hq2 := h.f2
 have hq3 := h.f3
 obtain ⟨b4, hq4⟩ := h.f4
 have hn := h.n
 have hcl := h.ch.lo
 have hcn := h.ch.n
 have hlo := h.lo
 have hrx := h.rx0
 have hk2 := h.k2
 have hsz := h.sz
 have g := hr.g
 have c1 : cget c 1 = some (.i .i64 (at' : Int)) := hr.at_ 1 _ rfl
 have hb1 : hasB c 1 1 = true := has_at hr.at_ (Nat.zero_le _) (by show 1 + 1 ≤ 0 + 4; omega)
 have hon := hr.on (at' + 1)
 have hcast : ((at' + 1 : Nat) : Int) = (at' : Int) + 1 := by omega
 rw [hcast] at hon
 simp only [q0, q2, q3, q4] at hq0 hq2 hq3 hq4
 unfold K72_13
 simp (disch := first | omega | assumption | (simp only [bZ, stOk, Nat.reduceBEq, Nat.reduceEqDiff, Nat.reduceAdd] <;> omega) | ((try apply has_setN); apply has_ofL; simp only [bxL]; omega)) only [↓bxD, bA, Nat.reduceBEq, reduceCtorEq, Nat.reduceAdd, Nat.reduceSub, Nat.reduceMul, Nat.reduceLeDiff, Nat.reduceLT, hq0, hq2, hq3, hq4, g, c1, hb1, nck_p, Nat.zero_add, cells_i]
 obtain ⟨t, a, b, c', d, g3, hA⟩ := h.g3
 have g3' : (M.set rx (some (.cs false 4 (setN [MV.i .i64 ((at' : Int) + 1)] 1 c)))).get (M0.n + 1) = _ := (set_ne (by omega)).trans g3
 have g2' : (M.set rx (some (.cs false 4 (setN [MV.i .i64 ((at' : Int) + 1)] 1 c)))).get M0.n = _ := (set_ne (by omega)).trans h.g2
 have hch : Chg (fun j => j = rx) M0 (M.set rx (some (.cs false 4 (setN [MV.i .i64 ((at' : Int) + 1)] 1 c)))) := h.ch.set _ (.inl rfl)
 generalize setN [MV.i .i64 ((at' : Int) + 1)] 1 c = c5 at hon hch g2' g3' ⊢
 have hn5 : M0.n + 1 < (M.set rx (some (.cs false 4 c5))).n := hn
 generalize hM5 : M.set rx (some (.cs false 4 c5)) = M5 at hon hch g2' g3' hn5 ⊢
 have hk1 := h.k1
 have last : ∀ (f' : Fr) (M' : MH) (t' : Ev.T MV) (a' b' c' d' : Int), X.ev f' (.t q2) = .p M0.n 0 → X.ev f' (.t q3) = .p (M0.n + 1) 0 → M'.get (M0.n + 1) = some (.cs false 4 t') → At t' 0 (st4 a' b' c' d') → M'.get M0.n = some (.cs false 6 (ofL z6 0)) → M0.n + 1 < M'.n → (∃ c bad, RdAt M' rx s (at' + 1) e c bad) → Chg (fun j => j = rx) M0 M' → Wp fns K72_12 f' M' (retQ F72 (ClPost s rx k M0)) := by
  intro f' M' t' a' b' c' d' h2 h3 g3 hA g2 hn' hr' hc'
  have hl' := hc'.lo
  simp only [q2, q3] at h2 h3
  have h2' := slot_get h2
  have hN : getN t' 4 0 = some (st4 a' b' c' d') := hA.getN
  have ff : fillM [(0, 1, MV.i .i64 1), (1, 4, MV.ag (st4 a' b' c' d'))] [.i .i64 0, .i .u64 0, .i .u64 0, .i .u64 0, .i .u64 0, .nils] = some [.i .i64 1, .i .u64 a', .i .u64 b', .i .u64 c', .i .u64 d', .nils] := rfl
  have hS : stW M' 6 M0.n 0 (.ag [.i .i64 1, .i .u64 a', .i .u64 b', .i .u64 c', .i .u64 d', .nils]) (some (.cs false 6 (ofL z6 0))) = _ := stW_ok (n := 6) (id := M0.n) (off := 0) (sz := 6) (M := M') (y := .ag [.i .i64 1, .i .u64 a', .i .u64 b', .i .u64 c', .i .u64 d', .nils]) (by omega) rfl (has_ofL _ _ _ (by decide))
  have hcl : MV.cells (.ag [.i .i64 1, .i .u64 a', .i .u64 b', .i .u64 c', .i .u64 d', .nils]) = [.i .i64 1, .i .u64 a', .i .u64 b', .i .u64 c', .i .u64 d', .nils] := rfl
  have hg6 : ∀ t, getN (setN [.i .i64 1, .i .u64 a', .i .u64 b', .i .u64 c', .i .u64 d', .nils] 0 t) 6 0 = some [.i .i64 1, .i .u64 a', .i .u64 b', .i .u64 c', .i .u64 d', .nils] := fun t => getN_setN [.i .i64 1, .i .u64 a', .i .u64 b', .i .u64 c', .i .u64 d', .nils] 0 t
  unfold K72_12
  simp (disch := first | omega | assumption | (simp only [bZ, stOk, Nat.reduceBEq, Nat.reduceEqDiff, Nat.reduceAdd] <;> omega) | ((try apply has_setN); apply has_ofL; simp only [bxL]; omega)) only [↓bxD, bA, Nat.reduceBEq, reduceCtorEq, Nat.reduceAdd, Nat.reduceSub, Nat.reduceMul, Nat.reduceLeDiff, Nat.reduceLT, h2, h2', h3, g3, g2, hN, ff, hS, set_same, res_cN, cNV_p, cNo_cs, get_set, hcl, hg6, map_ag]
  obtain ⟨c0, bad0, hr0⟩ := hr'
  exact ⟨e, at' + 1, a', b', c', d', rfl, ⟨c0, bad0, hr0.put (by omega)⟩, hc'.set _ (.inr (Nat.le_refl _)), by omega, by omega, fun q => he q⟩
 cases b4 with
 | false =>
  simp (maxSteps := 4000000) (disch := first | omega | assumption | (simp only [bxS, bxV, stOk, Nat.reduceBEq, Nat.reduceEqDiff, Nat.reduceAdd]; done) | (simp only [bxU]; omega) | ((try apply has_setN); apply has_ofL; simp only [bxL]; omega)) only [↓bxD, bxP, bxQ, bxQ2, Nat.reduceBEq, reduceCtorEq, Nat.reduceAdd, Nat.reduceSub, Nat.reduceMul, Nat.reduceLeDiff, Nat.reduceLT, bxR, hq0, hq2, hq3, hq4, g, c1, hb1, nck_p, Nat.zero_add, cells_i]
  show Wp fns K72_12 _ _ _
  exact last _ _ t a b c' d (by simp only [bxP, bxQ, bxQ2, reduceCtorEq, hq0, hq2, hq3, hq4, g, c1, hb1, nck_p, Nat.zero_add, cells_i]) (by simp only [bxP, bxQ, bxQ2, reduceCtorEq, hq0, hq2, hq3, hq4, g, c1, hb1, nck_p, Nat.zero_add, cells_i]) g3' hA g2' hn5 ⟨c5, bad, hon⟩ hch
 | true =>
  simp (disch := first | omega | assumption) only [↓bxD, bA, reduceCtorEq, hq0, hq2, hq3, hq4, g, c1, hb1, nck_p, Nat.zero_add, cells_i]
  refine Wp_inv (σ := Nat) (fun z f' M' => z ≤ 4 ∧ X.ev f' (.t q10) = .i .i64 (z : Int) ∧ X.ev f' (.t q2) = .p M0.n 0 ∧ X.ev f' (.t q3) = .p (M0.n + 1) 0 ∧ (∃ t a b c d, M'.get (M0.n + 1) = some (.cs false 4 t) ∧ At t 0 (st4 a b c d)) ∧ M'.get M0.n = some (.cs false 6 (ofL z6 0)) ∧ M0.n + 1 < M'.n ∧ RdAt M' rx s (at' + 1) e c5 bad ∧ Chg (fun j => j = rx) M0 M') (fun z => 4 - z) ?_ 0 ?_
  ·rintro z f1 M1 ⟨hz, h10, h2, h3, ⟨t, a, b, c', d, g3, hA⟩, g2, hn1, hr1, hc1⟩
   have hl1 := hc1.lo
   simp only [q10, q2, q3] at h10 h2 h3
   unfold L72_11
   by_cases hz4 : z < 4
   ·have d1 : decide ((z : Int) < 4) = true := decide_eq_true (by omega)
    obtain ⟨w, hw⟩ : ∃ w, cget t z = some (.i .u64 w) := by
     match z, hz4 with
     | 0, _ => exact ⟨a, hA 0 _ rfl⟩
     | 1, _ => exact ⟨b, hA 1 _ rfl⟩
     | 2, _ => exact ⟨c', hA 2 _ rfl⟩
     | 3, _ => exact ⟨d, hA 3 _ rfl⟩
    have hix : ixAV 4 1 (.p (M0.n + 1) 0) (.i .i64 (z : Int)) = some (.p (M0.n + 1) (0 + z * 1)) := ixA_p (i := z) hz4
    have hx : ∀ w, unM .xor (.i .u64 w) = some (.i .u64 (bitsF .xor .u64 (if IntKind.u64.signed then -1 else IntKind.u64.max) w)) := fun _ => rfl
    have hH : hasB t 1 z = true := has_at hA (Nat.zero_le _) (by show z + 1 ≤ 0 + 4; omega)
    simp (disch := first | omega | assumption) only [↓bxD, bA, reduceCtorEq, h10, h2, h3, d1, g3, hix, Nat.zero_add, Nat.mul_one, hw, hx, hH]
    show Wp fns K72_10 _ _ _
    unfold K72_10
    simp (disch := first | omega | assumption | (simp only [bZ, stOk, Nat.reduceBEq, Nat.reduceEqDiff, Nat.reduceAdd] <;> omega) | ((try apply has_setN); apply has_ofL; simp only [bxL]; omega)) only [↓bxD, bA, Nat.reduceBEq, reduceCtorEq, Nat.reduceAdd, Nat.reduceSub, Nat.reduceMul, Nat.reduceLeDiff, Nat.reduceLT, h10, h2, h3, d1, g3, hix, Nat.zero_add, Nat.mul_one, hw, hx, hH]
    generalize bitsF .xor .u64 _ w = w2
    show Wp fns K72_9 _ _ _
    unfold K72_9
    simp (disch := first | omega | assumption) only [↓bxD, bA, reduceCtorEq, h10, h2, h3, d1, g3, hix, Nat.zero_add, Nat.mul_one, hw, hx, hH]
    have hA2 : At (setN [.i .u64 w2] z t) 0 ((st4 a b c' d).set z (.i .u64 w2)) := hA.set' (k := z) z (.i .u64 w2) hz4 (by omega)
    obtain ⟨a2, b2, c2, d2, e2⟩ := st4_set a b c' d w2 hz4
    rw [e2] at hA2
    exact ⟨z + 1, by omega, by omega, rfl, ⟨_, a2, b2, c2, d2, rfl, hA2⟩, g2, hn1, hr1.put (by omega), hc1.set _ (.inr (by omega))⟩
   ·have d1 : decide ((z : Int) < 4) = false := decide_eq_false (by omega)
    simp (disch := first | omega | assumption) only [↓bxD, bA, reduceCtorEq, h10, h2, h3, d1]
    show Wp fns K72_12 _ _ _
    exact last _ _ t a b c' d (by simp only [bA, reduceCtorEq, h10, h2, h3, d1]) (by simp only [bA, reduceCtorEq, h10, h2, h3, d1]) g3 hA g2 hn1 ⟨c5, bad, hr1⟩ hc1
  ·exact ⟨by omega, by simp only [bA, reduceCtorEq, hq0, hq2, hq3, hq4, g, c1, hb1, nck_p, Nat.zero_add, cells_i] <;> rfl, by simp only [bA, reduceCtorEq, hq0, hq2, hq3, hq4, g, c1, hb1, nck_p, Nat.zero_add, cells_i], by simp only [bA, reduceCtorEq, hq0, hq2, hq3, hq4, g, c1, hb1, nck_p, Nat.zero_add, cells_i], ⟨t, a, b, c', d, g3', hA⟩, g2', hn5, hon, hch⟩
theorem class_one {M0 M : MH} {rx : Nat} {s : ByteArray} {k at' lw hg n : Nat} {e : Int} {f : Fr} (h : ClSt M0 M rx s k at' e f) (h6 : X.ev f (.t q6) = .i .u8 (lw : Int)) (h7 : X.ev f (.t q7) = .i .u8 (hg : Int)) (hl : lw < 256) (hh : hg < 256) (h5 : X.ev f (.t q5) = .i .i64 (n : Int)) (hn : n ≤ 2000) (Q : Post)
  (hQ : ∀ f' M', ClSt M0 M' rx s k at' e f' → X.ev f' (.t q5) = .i .i64 ((n + 1 : Nat) : Int) → Q .norm f' M') : Wp fns K72_5 f M Q := by
 have hcv := cv_i64 lw hl
 simp only [q5, q6, q7] at h5 h6 h7
 unfold K72_5
 simp (disch := first | omega | assumption) only [↓bxD, bA, reduceCtorEq, h5, h6, h7, hcv]
 refine class_fill (lw := lw) (hg := hg) (n := n) (h.went (.refl _ _) h.rd (Nat.le_refl _) h.k2 (by simp only [bA, reduceCtorEq, h5, h6, h7, hcv]) (by simp only [bA, reduceCtorEq, h5, h6, h7, hcv]) (by simp only [bA, reduceCtorEq, h5, h6, h7, hcv]) (by simp only [bA, reduceCtorEq, h5, h6, h7, hcv])) (by simp only [bA, reduceCtorEq, h5, h6, h7, hcv]) (by simp only [bA, reduceCtorEq, h5, h6, h7, hcv]) hl hh (by simp only [bA, reduceCtorEq, h5, h6, h7, hcv]) _ fun f' M' h' h5' => ?_
 simp only [q5] at h5'
 show Wp fns K72_4 _ _ _
 unfold K72_4
 simp (disch := first | omega | assumption) only [↓bxD, bA, reduceCtorEq, h5']
 exact hQ _ _ (h'.went (.refl _ _) h'.rd (Nat.le_refl _) h'.k2 (by simp only [bA, reduceCtorEq, h5']) (by simp only [bA, reduceCtorEq, h5']) (by simp only [bA, reduceCtorEq, h5']) (by simp only [bA, reduceCtorEq, h5'])) (by simp only [bA, reduceCtorEq, h5'] <;> rfl)
theorem class_cond {M0 M : MH} {rx : Nat} {s : ByteArray} {k a2 lw n : Nat} {e2 : Int} {b : Bool} {f : Fr} (h : ClSt M0 M rx s k a2 e2 f) (h6 : X.ev f (.t q6) = .i .u8 (lw : Int)) (h7 : X.ev f (.t q7) = .i .u8 (lw : Int)) (h84 : X.ev f (.t q84) = .b b) (hl : lw < 256) (h5 : X.ev f (.t q5) = .i .i64 (n : Int)) (hn : n ≤ 2000) (hb : b = true → e2 = 0 ∧ a2 + 1 < s.size) (Q : Post)
  (hQ : ∀ f' M' a3 e3, ClSt M0 M' rx s k a3 e3 f' → a2 ≤ a3 → (e3 = 0 → e2 = 0) → X.ev f' (.t q5) = .i .i64 ((n + 1 : Nat) : Int) → Q .norm f' M') : Wp fns (.seq K72_0 K72_5) f M Q := by
 have hq0 := h.f0
 simp only [q0, q5, q6, q7, q84] at hq0 h5 h6 h7 h84
 unfold K72_0
 cases b with
 | false =>
  simp (disch := first | omega | assumption) only [↓bxD, bA, reduceCtorEq, hq0, h5, h6, h7, h84]
  show Wp fns K72_5 _ _ _
  exact class_one (h.went (.refl _ _) h.rd (Nat.le_refl _) h.k2 (by simp only [bA, reduceCtorEq, hq0, h5, h6, h7, h84]) (by simp only [bA, reduceCtorEq, hq0, h5, h6, h7, h84]) (by simp only [bA, reduceCtorEq, hq0, h5, h6, h7, h84]) (by simp only [bA, reduceCtorEq, hq0, h5, h6, h7, h84])) (by simp only [bA, reduceCtorEq, hq0, h5, h6, h7, h84]) (by simp only [bA, reduceCtorEq, hq0, h5, h6, h7, h84]) hl hl (by simp only [bA, reduceCtorEq, hq0, h5, h6, h7, h84]) hn _ fun f' M' h' h5' => hQ f' M' a2 e2 h' (Nat.le_refl _) id h5'
 | true =>
  obtain ⟨rfl, hlt⟩ := hb rfl
  obtain ⟨c, bad, hr⟩ := h.rd
  have hnn := h.n
  have hcl := h.ch.lo
  have hcn := h.ch.n
  have hlo := h.lo
  have hrx := h.rx0
  have hk1 := h.k1
  have hk2 := h.k2
  have hsz := h.sz
  have g := hr.g
  have c1 : cget c 1 = some (.i .i64 (a2 : Int)) := hr.at_ 1 _ rfl
  have hb1 : hasB c 1 1 = true := has_at hr.at_ (Nat.zero_le _) (by show 1 + 1 ≤ 0 + 4; omega)
  have hon := hr.on (a2 + 1)
  have hcast : ((a2 + 1 : Nat) : Int) = (a2 : Int) + 1 := by omega
  rw [hcast] at hon
  simp (disch := first | omega | assumption | (simp only [bZ, stOk, Nat.reduceBEq, Nat.reduceEqDiff, Nat.reduceAdd] <;> omega) | ((try apply has_setN); apply has_ofL; simp only [bxL]; omega)) only [↓bxD, bA, Nat.reduceBEq, reduceCtorEq, Nat.reduceAdd, Nat.reduceSub, Nat.reduceMul, Nat.reduceLeDiff, Nat.reduceLT, hq0, h5, h6, h7, h84, g, c1, hb1, nck_p, Nat.zero_add, cells_i]
  have hch : Chg (fun j => j = rx) M (M.set rx (some (.cs false 4 (setN [MV.i .i64 ((a2 : Int) + 1)] 1 c)))) := (Chg.refl _ M).set _ (.inl rfl)
  generalize setN [MV.i .i64 ((a2 : Int) + 1)] 1 c = c5 at hon hch ⊢
  generalize hM5 : M.set rx (some (.cs false 4 c5)) = M5 at hon hch ⊢
  have n5 := hch.n
  have l5 := hch.lo
  have g5 := hon.g
  have d1 : cget c5 1 = some (.i .i64 ((a2 + 1 : Nat) : Int)) := hon.at_ 1 _ rfl
  refine bindP_call (byte1_any (by omega) hsz (by omega) hon) ?_
  rintro m M6 ⟨hg, a3, e3, rfl, hhg, ⟨⟨c6, bad6, hr6⟩, hk13, hk23, _, hc6⟩, _⟩
  have n6 := hc6.n
  have l6 := hc6.lo
  have g6 := hr6.g
  have d2 : cget c6 2 = some (.i .i64 e3) := hr6.at_ 2 _ rfl
  have hcc := hch.trans hc6
  by_cases he : e3 = 0
  ·subst he
   by_cases hlh : (hg : Int) < (lw : Int)
   ·have d5 : decide ((hg : Int) < (lw : Int)) = true := decide_eq_true hlh
    simp (disch := first | omega | assumption) only [↓bxD, bA, reduceCtorEq, hq0, h5, h6, h7, h84, g6, d2, d5, nck_p, Nat.zero_add]
    refine bindP_call (fail_any (z := 2) (by omega) hr6) ?_
    rintro m M7 ⟨⟨c7, bad7, h7'⟩, hc7⟩
    simp (disch := first | omega | assumption) only [↓bxD, bA, reduceCtorEq, hq0, h5, h6, h7, h84, g6, d2, d5, nck_p, Nat.zero_add]
    show Wp fns K72_5 _ _ _
    exact class_one (h.went (hcc.trans hc7) ⟨c7, bad7, h7'⟩ (by omega) hk23 (by simp only [bA, reduceCtorEq, hq0, h5, h6, h7, h84, g6, d2, d5, nck_p, Nat.zero_add]) (by simp only [bA, reduceCtorEq, hq0, h5, h6, h7, h84, g6, d2, d5, nck_p, Nat.zero_add]) (by simp only [bA, reduceCtorEq, hq0, h5, h6, h7, h84, g6, d2, d5, nck_p, Nat.zero_add]) (by simp only [bA, reduceCtorEq, hq0, h5, h6, h7, h84, g6, d2, d5, nck_p, Nat.zero_add])) (by simp only [bA, reduceCtorEq, hq0, h5, h6, h7, h84, g6, d2, d5, nck_p, Nat.zero_add]) (by simp only [bA, reduceCtorEq, hq0, h5, h6, h7, h84, g6, d2, d5, nck_p, Nat.zero_add]) hl hhg (by simp only [bA, reduceCtorEq, hq0, h5, h6, h7, h84, g6, d2, d5, nck_p, Nat.zero_add]) hn _ fun f' M' h' h5' => hQ f' M' a3 _ h' (by omega) (fun _ => rfl) h5'
   ·have d5 : decide ((hg : Int) < (lw : Int)) = false := decide_eq_false hlh
    simp (disch := first | omega | assumption) only [↓bxD, bA, reduceCtorEq, hq0, h5, h6, h7, h84, g6, d2, d5, nck_p, Nat.zero_add]
    show Wp fns K72_5 _ _ _
    exact class_one (h.went hcc ⟨c6, bad6, hr6⟩ (by omega) hk23 (by simp only [bA, reduceCtorEq, hq0, h5, h6, h7, h84, g6, d2, d5, nck_p, Nat.zero_add]) (by simp only [bA, reduceCtorEq, hq0, h5, h6, h7, h84, g6, d2, d5, nck_p, Nat.zero_add]) (by simp only [bA, reduceCtorEq, hq0, h5, h6, h7, h84, g6, d2, d5, nck_p, Nat.zero_add]) (by simp only [bA, reduceCtorEq, hq0, h5, h6, h7, h84, g6, d2, d5, nck_p, Nat.zero_add])) (by simp only [bA, reduceCtorEq, hq0, h5, h6, h7, h84, g6, d2, d5, nck_p, Nat.zero_add]) (by simp only [bA, reduceCtorEq, hq0, h5, h6, h7, h84, g6, d2, d5, nck_p, Nat.zero_add]) hl hhg (by simp only [bA, reduceCtorEq, hq0, h5, h6, h7, h84, g6, d2, d5, nck_p, Nat.zero_add]) hn _ fun f' M' h' h5' => hQ f' M' a3 _ h' (by omega) (fun _ => rfl) h5'
  ·have d0 : decide (e3 = 0) = false := decide_eq_false he
   simp (disch := first | omega | assumption) only [↓bxD, bA, reduceCtorEq, hq0, h5, h6, h7, h84, g6, d2, d0, nck_p, Nat.zero_add]
   show Wp fns K72_5 _ _ _
   exact class_one (h.went hcc ⟨c6, bad6, hr6⟩ (by omega) hk23 (by simp only [bA, reduceCtorEq, hq0, h5, h6, h7, h84, g6, d2, d0, nck_p, Nat.zero_add]) (by simp only [bA, reduceCtorEq, hq0, h5, h6, h7, h84, g6, d2, d0, nck_p, Nat.zero_add]) (by simp only [bA, reduceCtorEq, hq0, h5, h6, h7, h84, g6, d2, d0, nck_p, Nat.zero_add]) (by simp only [bA, reduceCtorEq, hq0, h5, h6, h7, h84, g6, d2, d0, nck_p, Nat.zero_add])) (by simp only [bA, reduceCtorEq, hq0, h5, h6, h7, h84, g6, d2, d0, nck_p, Nat.zero_add]) (by simp only [bA, reduceCtorEq, hq0, h5, h6, h7, h84, g6, d2, d0, nck_p, Nat.zero_add]) hl hhg (by simp only [bA, reduceCtorEq, hq0, h5, h6, h7, h84, g6, d2, d0, nck_p, Nat.zero_add]) hn _ fun f' M' h' h5' => hQ f' M' a3 _ h' (by omega) (fun q => absurd q he) h5'
theorem class_dash {M0 M : MH} {rx : Nat} {s : ByteArray} {k at' n : Nat} {f : Fr} (h : ClSt M0 M rx s k at' 0 f) (h5 : X.ev f (.t q5) = .i .i64 (n : Int)) (hn : n ≤ 2000) (Q : Post)
  (hQ : ∀ f' M' a2 e2, ClSt M0 M' rx s k a2 e2 f' → at' ≤ a2 → (e2 = 0 → at' < a2) → X.ev f' (.t q5) = .i .i64 ((n + 1 : Nat) : Int) → Q .norm f' M') : Wp fns K72_6 f M Q := by
 obtain ⟨c, bad, hr⟩ := h.rd
 have hq0 := h.f0
 have hnn := h.n
 have hcl := h.ch.lo
 have hcn := h.ch.n
 have hlo := h.lo
 have hrx := h.rx0
 have hk2 := h.k2
 have hsz := h.sz
 simp only [q0, q5] at hq0 h5
 unfold K72_6
 simp (disch := first | omega | assumption) only [↓bxD, bA, reduceCtorEq, hq0, h5]
 refine bindP_call (byte1_any (by omega) hsz hk2 hr) ?_
 rintro m M2 ⟨lw, a2, e2, rfl, hlw, ⟨⟨c2, bad2, hr2⟩, hk12, hk22, _, hc2⟩, he2⟩
 have n2 := hc2.n
 have l2 := hc2.lo
 have g2 := hr2.g
 have d2 : cget c2 2 = some (.i .i64 e2) := hr2.at_ 2 _ rfl
 simp (disch := first | omega | assumption) only [↓bxD, bA, reduceCtorEq, hq0, h5]
 refine Wp_dreg_of (by omega) ?_
 by_cases he : e2 = 0
 ·subst he
  simp (disch := first | omega | assumption) only [↓bxD, bA, reduceCtorEq, hq0, h5, g2, d2, nck_p, Nat.zero_add]
  refine bindP_call (is_any (q := 45) (by omega) hr2) ?_
  rintro m M3 ⟨⟨r, rfl, hr3⟩, x3⟩
  have n3 := x3.n
  have l3 := x3.lo
  have hrd3 := hr2.ext x3
  have g3 := hrd3.g
  have c30 : cget c2 0 = some (.s s) := hr2.at_ 0 _ rfl
  have c31 : cget c2 1 = some (.i .i64 (a2 : Int)) := hr2.at_ 1 _ rfl
  have h3 : ∀ f', X.ev f' (.t q0) = X.ev f (.t q0) → X.ev f' (.t q2) = X.ev f (.t q2) → X.ev f' (.t q3) = X.ev f (.t q3) → X.ev f' (.t q4) = X.ev f (.t q4) → ClSt M0 M3 rx s k a2 0 f' := fun f' e0 e2 e3 e4 => h.went (hc2.trans (.of x3)) ⟨c2, bad2, hrd3⟩ hk12 hk22 e0 e2 e3 e4
  have fin : ∀ f' b, X.ev f' (.t q0) = X.ev f (.t q0) → X.ev f' (.t q2) = X.ev f (.t q2) → X.ev f' (.t q3) = X.ev f (.t q3) → X.ev f' (.t q4) = X.ev f (.t q4) → X.ev f' (.t q6) = .i .u8 (lw : Int) → X.ev f' (.t q7) = .i .u8 (lw : Int) → X.ev f' (.t q84) = .b b → X.ev f' (.t q5) = .i .i64 (n : Int) → (b = true → a2 + 1 < s.size) → Wp fns (.seq K72_0 K72_5) f' M3 Q := fun f' b e0 e2 e3 e4 k6 k7 k84 k5 hb =>
   class_cond (h3 f' e0 e2 e3 e4) k6 k7 k84 hlw k5 hn (fun q => ⟨rfl, hb q⟩) Q fun f2 M2 a3 e3 h' hle he3 h5' => hQ f2 M2 a3 e3 h' (by omega) (fun q => by have := he2 rfl; omega) h5'
  cases r with
  | false =>
   simp (disch := first | omega | assumption) only [↓bxD, bA, reduceCtorEq, hq0, h5]
   exact fin _ false (by simp only [bA, reduceCtorEq, hq0, h5]) (by simp only [bA, reduceCtorEq, hq0, h5]) (by simp only [bA, reduceCtorEq, hq0, h5]) (by simp only [bA, reduceCtorEq, hq0, h5]) (by simp only [bA, reduceCtorEq, hq0, h5]) (by simp only [bA, reduceCtorEq, hq0, h5]) (by simp only [bxP, bxQ, bxQ2, reduceCtorEq, hq0, h5]) (by simp only [bxP, bxQ, bxQ2, reduceCtorEq, hq0, h5]) (fun q => by cases q)
  | true =>
   by_cases hlt : (a2 : Int) + 1 < (s.size : Int)
   ·have d5 : decide ((a2 : Int) + 1 < (s.size : Int)) = true := decide_eq_true hlt
    have hk' : a2 + 1 < s.data.toList.length := by rw [Array.length_toList]; exact (by omega : a2 + 1 < s.size)
    have hix : puM .ixT (.s s) (.i .i64 ((a2 : Int) + 1)) = some (.i .u8 (s.data.toList[a2 + 1].toNat : Int)) := by
     show (match s.data.toList[a2 + 1]? with | some c => some (MV.i .u8 (.ofNat c.toNat)) | none => none) = _
     rw [List.getElem?_eq_getElem hk']
     rfl
    simp (maxSteps := 4000000) (disch := first | omega | assumption | (simp only [bxS, bxV, stOk, Nat.reduceBEq, Nat.reduceEqDiff, Nat.reduceAdd]; done) | (simp only [bxU]; omega) | ((try apply has_setN); apply has_ofL; simp only [bxL]; omega)) only [↓bxD, bxP, bxQ, bxQ2, Nat.reduceBEq, reduceCtorEq, Nat.reduceAdd, Nat.reduceSub, Nat.reduceMul, Nat.reduceLeDiff, Nat.reduceLT, bxR, hq0, h5, g3, c30, c31, d5, hix, ev_lenT, lenT_s, nck_p, Nat.zero_add]
    exact fin _ (decide ((s.data.toList[a2 + 1].toNat : Int) ≠ 93)) (by simp only [bA, reduceCtorEq, hq0, h5, g3, c30, c31, d5, hix, ev_lenT, lenT_s, nck_p, Nat.zero_add]) (by simp only [bA, reduceCtorEq, hq0, h5, g3, c30, c31, d5, hix, ev_lenT, lenT_s, nck_p, Nat.zero_add]) (by simp only [bA, reduceCtorEq, hq0, h5, g3, c30, c31, d5, hix, ev_lenT, lenT_s, nck_p, Nat.zero_add]) (by simp only [bA, reduceCtorEq, hq0, h5, g3, c30, c31, d5, hix, ev_lenT, lenT_s, nck_p, Nat.zero_add]) (by simp only [bA, reduceCtorEq, hq0, h5, g3, c30, c31, d5, hix, ev_lenT, lenT_s, nck_p, Nat.zero_add]) (by simp only [bA, reduceCtorEq, hq0, h5, g3, c30, c31, d5, hix, ev_lenT, lenT_s, nck_p, Nat.zero_add]) (by simp only [bA, reduceCtorEq, hq0, h5, g3, c30, c31, d5, hix, ev_lenT, lenT_s, nck_p, Nat.zero_add]) (by simp only [bA, reduceCtorEq, hq0, h5, g3, c30, c31, d5, hix, ev_lenT, lenT_s, nck_p, Nat.zero_add]) (fun _ => by omega)
   ·have d5 : decide ((a2 : Int) + 1 < (s.size : Int)) = false := decide_eq_false hlt
    simp (disch := first | omega | assumption) only [↓bxD, bA, reduceCtorEq, hq0, h5, g3, c30, c31, d5, ev_lenT, lenT_s, nck_p, Nat.zero_add]
    exact fin _ false (by simp only [bA, reduceCtorEq, hq0, h5, g3, c30, c31, d5, ev_lenT, lenT_s, nck_p, Nat.zero_add]) (by simp only [bA, reduceCtorEq, hq0, h5, g3, c30, c31, d5, ev_lenT, lenT_s, nck_p, Nat.zero_add]) (by simp only [bA, reduceCtorEq, hq0, h5, g3, c30, c31, d5, ev_lenT, lenT_s, nck_p, Nat.zero_add]) (by simp only [bA, reduceCtorEq, hq0, h5, g3, c30, c31, d5, ev_lenT, lenT_s, nck_p, Nat.zero_add]) (by simp only [bA, reduceCtorEq, hq0, h5, g3, c30, c31, d5, ev_lenT, lenT_s, nck_p, Nat.zero_add]) (by simp only [bA, reduceCtorEq, hq0, h5, g3, c30, c31, d5, ev_lenT, lenT_s, nck_p, Nat.zero_add]) (by simp only [bA, reduceCtorEq, hq0, h5, g3, c30, c31, d5, ev_lenT, lenT_s, nck_p, Nat.zero_add]) (by simp only [bA, reduceCtorEq, hq0, h5, g3, c30, c31, d5, ev_lenT, lenT_s, nck_p, Nat.zero_add]) (fun q => by cases q)
 ·have d0 : decide (e2 = 0) = false := decide_eq_false he
  simp (disch := first | omega | assumption) only [↓bxD, bA, reduceCtorEq, hq0, h5, g2, d2, d0, nck_p, Nat.zero_add]
  exact class_cond (b := false) (h.went hc2 ⟨c2, bad2, hr2⟩ hk12 hk22 (by simp only [bA, reduceCtorEq, hq0, h5, g2, d2, d0, nck_p, Nat.zero_add]) (by simp only [bA, reduceCtorEq, hq0, h5, g2, d2, d0, nck_p, Nat.zero_add]) (by simp only [bA, reduceCtorEq, hq0, h5, g2, d2, d0, nck_p, Nat.zero_add]) (by simp only [bA, reduceCtorEq, hq0, h5, g2, d2, d0, nck_p, Nat.zero_add])) (by simp only [bA, reduceCtorEq, hq0, h5, g2, d2, d0, nck_p, Nat.zero_add]) (by simp only [bA, reduceCtorEq, hq0, h5, g2, d2, d0, nck_p, Nat.zero_add]) (by simp only [bA, reduceCtorEq, hq0, h5, g2, d2, d0, nck_p, Nat.zero_add]) hlw (by simp only [bA, reduceCtorEq, hq0, h5, g2, d2, d0, nck_p, Nat.zero_add]) hn (fun q => by cases q) Q fun f2 M2 a3 e3 h' hle he3 h5' => hQ f2 M2 a3 e3 h' (by omega) (fun q => absurd (he3 q) he) h5'
theorem class_body {M0 M : MH} {rx : Nat} {s : ByteArray} {k at' n : Nat} {f : Fr} (h : ClSt M0 M rx s k at' 0 f) (h5 : X.ev f (.t q5) = .i .i64 (n : Int)) (hn : n ≤ 2000) (Q : Post) (hx : ∀ f' M' a2 e2, ClSt M0 M' rx s k a2 e2 f' → e2 ≠ 0 → Q (.exit 0) f' M')
  (hQ : ∀ f' M' a2 e2, ClSt M0 M' rx s k a2 e2 f' → at' ≤ a2 → (e2 = 0 → at' < a2) → X.ev f' (.t q5) = .i .i64 ((n + 1 : Nat) : Int) → Q .norm f' M') : Wp fns K72_7 f M Q := by
 obtain ⟨c, bad, hr⟩ := h.rd
 have hq0 := h.f0
 have hnn := h.n
 have hcl := h.ch.lo
 have hcn := h.ch.n
 have hlo := h.lo
 have hrx := h.rx0
 have hk2 := h.k2
 have hsz := h.sz
 have c1 : cget c 1 = some (.i .i64 (at' : Int)) := hr.at_ 1 _ rfl
 simp only [q0, q5] at hq0 h5
 unfold K72_7
 simp (disch := first | omega | assumption) only [↓bxD, bA, reduceCtorEq, hq0, h5]
 refine bindP_call (is_any (q := 93) (by omega) hr) ?_
 rintro m M2 ⟨⟨r, rfl, hr2⟩, x2⟩
 have n2 := x2.n
 have l2 := x2.lo
 have hrd2 := hr.ext x2
 have g2 := hrd2.g
 cases r with
 | true =>
  simp (disch := first | omega | assumption) only [↓bxD, bA, reduceCtorEq, hq0, h5, g2, c1, nck_p, Nat.zero_add]
  refine bindP_call (fail_any (z := 2) (by omega) hrd2) ?_
  rintro m M3 ⟨⟨c3, bad3, h3⟩, hc3⟩
  simp (disch := first | omega | assumption) only [↓bxD, bA, reduceCtorEq, hq0, h5, g2, c1, nck_p, Nat.zero_add]
  exact hx _ _ at' _ (h.went ((Chg.of x2).trans hc3) ⟨c3, bad3, h3⟩ (Nat.le_refl _) hk2 (by simp only [bA, reduceCtorEq, hq0, h5, g2, c1, nck_p, Nat.zero_add]) (by simp only [bA, reduceCtorEq, hq0, h5, g2, c1, nck_p, Nat.zero_add]) (by simp only [bA, reduceCtorEq, hq0, h5, g2, c1, nck_p, Nat.zero_add]) (by simp only [bA, reduceCtorEq, hq0, h5, g2, c1, nck_p, Nat.zero_add])) (by simp)
 | false =>
  simp (disch := first | omega | assumption) only [↓bxD, bA, reduceCtorEq, hq0, h5, g2, c1, nck_p, Nat.zero_add]
  refine bindP_call (over_any (by omega) hrd2) ?_
  rintro m M3 ⟨rfl, x3⟩
  have n3 := x3.n
  have l3 := x3.lo
  have hrd3 := hrd2.ext x3
  have g3 := hrd3.g
  by_cases ho : s.size ≤ at'
  ·have d1 : decide (s.size ≤ at') = true := decide_eq_true ho
   simp (disch := first | omega | assumption) only [↓bxD, bA, reduceCtorEq, hq0, h5, g3, c1, d1, nck_p, Nat.zero_add]
   refine bindP_call (fail_any (z := 2) (by omega) hrd3) ?_
   rintro m M4 ⟨⟨c4, bad4, h4⟩, hc4⟩
   simp (disch := first | omega | assumption) only [↓bxD, bA, reduceCtorEq, hq0, h5, g3, c1, d1, nck_p, Nat.zero_add]
   exact hx _ _ at' _ (h.went (((Chg.of x2).trans (.of x3)).trans hc4) ⟨c4, bad4, h4⟩ (Nat.le_refl _) hk2 (by simp only [bA, reduceCtorEq, hq0, h5, g3, c1, d1, nck_p, Nat.zero_add]) (by simp only [bA, reduceCtorEq, hq0, h5, g3, c1, d1, nck_p, Nat.zero_add]) (by simp only [bA, reduceCtorEq, hq0, h5, g3, c1, d1, nck_p, Nat.zero_add]) (by simp only [bA, reduceCtorEq, hq0, h5, g3, c1, d1, nck_p, Nat.zero_add])) (by simp)
  ·have d1 : decide (s.size ≤ at') = false := decide_eq_false ho
   simp (disch := first | omega | assumption) only [↓bxD, bA, reduceCtorEq, hq0, h5, d1]
   show Wp fns K72_6 _ _ _
   refine class_dash (h.went ((Chg.of x2).trans (.of x3)) ⟨c, bad, hrd3⟩ (Nat.le_refl _) hk2 (by simp only [bA, reduceCtorEq, hq0, h5, d1]) (by simp only [bA, reduceCtorEq, hq0, h5, d1]) (by simp only [bA, reduceCtorEq, hq0, h5, d1]) (by simp only [bA, reduceCtorEq, hq0, h5, d1])) (by simp only [bA, reduceCtorEq, hq0, h5, d1]) hn _ fun f' M' a2 e2 h' h1 h2 h5' => ?_
   exact hQ f' M' a2 e2 h' h1 h2 h5'
theorem class_loop {M0 M : MH} {rx : Nat} {s : ByteArray} {k at' : Nat} {f : Fr} (h : ClSt M0 M rx s k at' 0 f) : Wp fns K72_14 f M (retQ F72 (ClPost s rx k M0)) := by
 unfold K72_14
 simp (disch := first | omega | assumption) only [↓bxD, bA, reduceCtorEq]
 refine Wp_inv (σ := Nat × Int × Nat) (fun p f' M' => ClSt M0 M' rx s k p.1 p.2.1 f' ∧ p.2.2 ≤ p.1 + 1 ∧ (p.2.1 = 0 → p.2.2 ≤ p.1) ∧ X.ev f' (.t q5) = .i .i64 (p.2.2 : Int)) (fun p => if p.2.1 = 0 then s.size + 1 - p.1 else 0) ?_ (at', 0, 0) ?_
 ·rintro ⟨a1, e1, n⟩ f1 M1 ⟨h, hn1, hn2, h5⟩
  simp only at h hn1 hn2 h5
  obtain ⟨c, bad, hr⟩ := h.rd
  have hq0 := h.f0
  have hn := h.n
  have hcl := h.ch.lo
  have hcn := h.ch.n
  have hlo := h.lo
  have hrx := h.rx0
  have hk2 := h.k2
  have hsz := h.sz
  have g := hr.g
  have c2 : cget c 2 = some (.i .i64 e1) := hr.at_ 2 _ rfl
  simp only [q0, q5] at hq0 h5
  unfold L72_8
  by_cases he : e1 = 0
  ·subst he
   have hn2 := hn2 rfl
   have bodyQ : ∀ f2 M2, ClSt M0 M2 rx s k a1 0 f2 → X.ev f2 (.t q5) = .i .i64 (n : Int) → Wp fns K72_7 f2 M2 fun ex f' M' => match ex with
     | .norm => ∃ s' : Nat × Int × Nat, (if s'.2.1 = 0 then s.size + 1 - s'.1 else 0) < s.size + 1 - a1 ∧ ClSt M0 M' rx s k s'.1 s'.2.1 f' ∧ s'.2.2 ≤ s'.1 + 1 ∧ (s'.2.1 = 0 → s'.2.2 ≤ s'.1) ∧ X.ev f' (.t q5) = .i .i64 (s'.2.2 : Int)
     | ex => blockQ 0 (thenQ fns K72_13 (retQ F72 (ClPost s rx k M0))) ex f' M' := fun f2 M2 h2 h52 => by
    refine class_body h2 h52 (by omega) _ (fun f' M' a2 e2 h' he => ?_) fun f' M' a2 e2 h' hle hlt h5' => ?_
    ·show Wp fns K72_13 _ _ _
     exact class_end h' (fun q => absurd q he)
    ·refine ⟨(a2, e2, n + 1), ?_, h', by simp only; omega, fun q => by have := hlt q; simp only; omega, h5'⟩
     have hk2' := h'.k2
     simp only
     split
     ·rename_i q; have := hlt q; omega
     ·omega
   simp (disch := first | omega | assumption) only [↓bxD, bA, reduceCtorEq, hq0, h5, g, c2, nck_p, Nat.zero_add]
   refine bindP_call (is_any (q := 93) (by omega) hr) ?_
   rintro m M2 ⟨⟨r, rfl, hr2⟩, x2⟩
   have n2 := x2.n
   have l2 := x2.lo
   have hrd2 := hr.ext x2
   cases r with
   | true =>
    by_cases hn0 : 0 < n
    ·have d1 : decide ((0 : Int) < (n : Int)) = true := decide_eq_true (by omega)
     simp (disch := first | omega | assumption) only [↓bxD, bA, reduceCtorEq, hq0, h5, d1]
     show Wp fns K72_13 _ _ _
     exact class_end (h.went (.of x2) ⟨c, bad, hrd2⟩ (Nat.le_refl _) h.k2 (by simp only [bA, reduceCtorEq, hq0, h5, d1]) (by simp only [bA, reduceCtorEq, hq0, h5, d1]) (by simp only [bA, reduceCtorEq, hq0, h5, d1]) (by simp only [bA, reduceCtorEq, hq0, h5, d1])) (fun _ => hr2 rfl)
    ·have d1 : decide ((0 : Int) < (n : Int)) = false := decide_eq_false (by omega)
     simp (disch := first | omega | assumption) only [↓bxD, bA, reduceCtorEq, hq0, h5, d1]
     show Wp fns K72_7 _ _ _
     exact bodyQ _ _ (h.went (.of x2) ⟨c, bad, hrd2⟩ (Nat.le_refl _) h.k2 (by simp only [bA, reduceCtorEq, hq0, h5, d1]) (by simp only [bA, reduceCtorEq, hq0, h5, d1]) (by simp only [bA, reduceCtorEq, hq0, h5, d1]) (by simp only [bA, reduceCtorEq, hq0, h5, d1])) (by simp only [bA, reduceCtorEq, hq0, h5, d1])
   | false =>
    simp (disch := first | omega | assumption) only [↓bxD, bA, reduceCtorEq, hq0, h5]
    show Wp fns K72_7 _ _ _
    exact bodyQ _ _ (h.went (.of x2) ⟨c, bad, hrd2⟩ (Nat.le_refl _) h.k2 (by simp only [bA, reduceCtorEq, hq0, h5]) (by simp only [bA, reduceCtorEq, hq0, h5]) (by simp only [bA, reduceCtorEq, hq0, h5]) (by simp only [bA, reduceCtorEq, hq0, h5])) (by simp only [bA, reduceCtorEq, hq0, h5])
  ·have d0 : decide (e1 = 0) = false := decide_eq_false he
   simp (disch := first | omega | assumption) only [↓bxD, bA, reduceCtorEq, hq0, h5, g, c2, d0, nck_p, Nat.zero_add]
   show Wp fns K72_13 _ _ _
   exact class_end (h.went (.refl _ _) h.rd (Nat.le_refl _) h.k2 (by simp only [bA, reduceCtorEq, hq0, h5, g, c2, d0, nck_p, Nat.zero_add]) (by simp only [bA, reduceCtorEq, hq0, h5, g, c2, d0, nck_p, Nat.zero_add]) (by simp only [bA, reduceCtorEq, hq0, h5, g, c2, d0, nck_p, Nat.zero_add]) (by simp only [bA, reduceCtorEq, hq0, h5, g, c2, d0, nck_p, Nat.zero_add])) (fun q => absurd q he)
 ·exact ⟨h.went (.refl _ _) h.rd (Nat.le_refl _) h.k2 (by simp only [bA, reduceCtorEq]) (by simp only [bA, reduceCtorEq]) (by simp only [bA, reduceCtorEq]) (by simp only [bA, reduceCtorEq]), Nat.zero_le _, fun _ => Nat.zero_le _, by simp only [bA, reduceCtorEq] <;> rfl⟩
theorem class_any {M : MH} {rx : Nat} {s : ByteArray} {k : Nat} {c : Ev.T MV} {bad : Int} (hs : s.size ≤ 1000) (hlo : M.lo ≤ rx) (hk : k ≤ s.size) (hr : RdAt M rx s k 0 c bad) : Cp fns 72 [.p rx 0] M (ClPost s rx k M) := by
 have hlt := hr.lt
 refine Cp_call (fn := F72) (by kernel_rfl) (Nat.le_of_ble_eq_true rfl) ?_
 show Wp fns B72 (T.set q0 (some (.p rx 0)) T.lf) M _
 unfold B72
 simp (disch := first | omega | assumption | (simp only [bZ, stOk, Nat.reduceBEq, Nat.reduceEqDiff, Nat.reduceAdd] <;> omega) | ((try apply has_setN); apply has_ofL; simp only [bxL]; omega)) only [↓bxD, bA, Nat.reduceBEq, reduceCtorEq, Nat.reduceAdd, Nat.reduceSub, Nat.reduceMul, Nat.reduceLeDiff, Nat.reduceLT]
 generalize hM1 : (M.push _).push _ = M1
 obtain ⟨x1, n1, g2, g3⟩ := push2 hM1
 have l1 := x1.lo
 clear hM1
 have hr1 := hr.ext x1
 refine bindP_call (is_any (q := 94) (by omega) hr1) ?_
 rintro m M2 ⟨⟨r, rfl, hr2⟩, x2⟩
 have n2 := x2.n
 have l2 := x2.lo
 have hrd2 := hr1.ext x2
 have g := hrd2.g
 have c1 : cget c 1 = some (.i .i64 (k : Int)) := hr.at_ 1 _ rfl
 have st : ∀ f' M' k' c', X.ev f' (.t q0) = .p rx 0 → X.ev f' (.t q2) = .p M.n 0 → X.ev f' (.t q3) = .p (M.n + 1) 0 → X.ev f' (.t q4) = .b r → Chg (fun j => j = rx) M2 M' → RdAt M' rx s k' 0 c' bad → k ≤ k' → k' ≤ s.size → ClSt M M' rx s k k' 0 f' := fun f' M' k' c' e0 e2 e3 e4 hc h' h1 h2 =>
  ⟨⟨c', bad, h'⟩, ((Chg.of x1).trans (.of x2)).trans hc, hlt, hlo, by have := hc.n; omega, (hc.old _ (by omega) (by omega)).trans ((x2.old _ (by omega)).trans g2), ⟨_, 0, 0, 0, 0, (hc.old _ (by omega) (by omega)).trans ((x2.old _ (by omega)).trans g3), at_ofL _⟩, h1, h2, hs, e0, e2, e3, ⟨r, e4⟩⟩
 cases r with
 | true =>
  have hlt' := hr2 rfl
  have hb1 : hasB c 1 1 = true := has_at hr.at_ (Nat.zero_le _) (by show 1 + 1 ≤ 0 + 4; omega)
  have hon := hrd2.on (k + 1)
  have hcast : ((k + 1 : Nat) : Int) = (k : Int) + 1 := by omega
  rw [hcast] at hon
  simp (disch := first | omega | assumption | (simp only [bZ, stOk, Nat.reduceBEq, Nat.reduceEqDiff, Nat.reduceAdd] <;> omega) | ((try apply has_setN); apply has_ofL; simp only [bxL]; omega)) only [↓bxD, bA, Nat.reduceBEq, reduceCtorEq, Nat.reduceAdd, Nat.reduceSub, Nat.reduceMul, Nat.reduceLeDiff, Nat.reduceLT, g, c1, hb1, nck_p, Nat.zero_add, cells_i]
  show Wp fns K72_14 _ _ _
  exact class_loop (st _ _ (k + 1) _ (by simp only [bA, reduceCtorEq, g, c1, hb1, nck_p, Nat.zero_add, cells_i]) (by simp only [bA, reduceCtorEq, g, c1, hb1, nck_p, Nat.zero_add, cells_i]) (by simp only [bA, reduceCtorEq, g, c1, hb1, nck_p, Nat.zero_add, cells_i]) (by simp only [bA, reduceCtorEq, g, c1, hb1, nck_p, Nat.zero_add, cells_i]) ((Chg.refl _ M2).set _ (.inl rfl)) hon (by omega) (by omega)) |> fun w => w
 | false =>
  simp (disch := first | omega | assumption) only [↓bxD, bA, reduceCtorEq]
  show Wp fns K72_14 _ _ _
  exact class_loop (st _ _ k c (by simp only [bA, reduceCtorEq]) (by simp only [bA, reduceCtorEq]) (by simp only [bA, reduceCtorEq]) (by simp only [bA, reduceCtorEq]) (.refl _ _) hrd2 (Nat.le_refl _) hk)
def PPost (s : ByteArray) (rx d q k : Nat) (M : MH) (m : MV) (M' : MH) : Prop :=
 ∃ (e : Int) (k' : Nat) (es : List MV), m = .ag es ∧ ReC es ∧ (∃ c bad, RdAt M' rx s k' e c bad) ∧ Chg (fun j => j = rx) M M' ∧ k' + d ≤ s.size + 23 ∧
  (e = 0 → k + q ≤ k' ∧ k' ≤ s.size ∧ ∃ x, XIn (fun j => M.n ≤ j) M' es x ∧ Wk x ∧ wei x + 4 * q ≤ 4 * (k' - k) + 2)
def leafC (a b c d : Int) : List MV := [.i .i64 1, .i .u64 a, .i .u64 b, .i .u64 c, .i .u64 d, .nils]
theorem leaf_rec (a b c d : Int) : ReC (leafC a b c d) := ⟨1, a, b, c, d, .nils, rfl, rfl⟩
theorem leaf_in (S : Nat → Prop) (M : MH) (a b c d : Int) : XIn S M (leafC a b c d) (.mk 1 a b c d []) ∧ Wk (.mk 1 a b c d []) ∧ wei (.mk 1 a b c d []) = 2 := by
 refine ⟨⟨.nils, rfl, rfl, rfl, by unfold BlksIn; trivial⟩, ?_, by simp [wei, weiL]⟩
 rw [Wk, WkL]
 exact ⟨fun h => by omega, trivial⟩
theorem none_rec : ReC z6 := ⟨0, 0, 0, 0, 0, .nils, rfl, rfl⟩
def AltIH (d : Nat) : Prop := ∀ (M : MH) (rx : Nat) (s : ByteArray) (k : Nat) (c : Ev.T MV) (bad : Int), s.size ≤ 1000 → M.lo ≤ rx → k ≤ s.size → RdAt M rx s k 0 c bad → Cp fns 19 [.p rx 0, .i .i64 (d : Int)] M (PPost s rx d 0 k M)
theorem atom_fin {M M' : MH} {rx k d q : Nat} {s : ByteArray} {es : List MV} {e : Int} {k' : Nat} {t : Ev.T MV} (hes : ReC es) (hr : ∃ c bad, RdAt M' rx s k' e c bad) (hrx : rx < M.n) (hc : Chg (fun j => j = rx) M M') (hk : k' + d ≤ s.size + 23)
  (hok : e = 0 → k + q ≤ k' ∧ k' ≤ s.size ∧ ∃ x, XIn (fun j => M.n < j) M' es x ∧ Wk x ∧ wei x + 4 * q ≤ 4 * (k' - k) + 2) : PPost s rx d q k M (.ag es) (M'.set M.n (some (.cs false 6 t))) := by
 obtain ⟨c, bad, hr⟩ := hr
 refine ⟨e, k', es, rfl, hes, ⟨c, bad, hr.put (by omega)⟩, hc.set _ (.inr (Nat.le_refl _)), hk, fun q => ?_⟩
 obtain ⟨h1, h2, x, h3, h5, h6⟩ := hok q
 exact ⟨h1, h2, x, XIn.more (S := fun j => M.n < j) (S' := fun j => M.n ≤ j) (M := M') (M' := M'.set M.n (some (.cs false 6 t))) (Nat.le_refl _) (fun j hj _ => ⟨Nat.le_of_lt hj, set_ne (by omega)⟩) h3, h5, h6⟩
theorem re_st {M' : MH} {id : Nat} {es : List MV} (hes : ReC es) (hlo : M'.lo ≤ id) : stW M' 6 id 0 (.ag es) (some (.cs false 6 (ofL z6 0))) = some (.u, M'.set id (some (.cs false 6 (setN es 0 (ofL z6 0))))) := by
 have hcl : MV.cells (.ag es) = es := by obtain ⟨_, _, _, _, _, _, rfl, _⟩ := hes; rfl
 have := stW_ok (n := 6) (id := id) (off := 0) (sz := 6) (M := M') (y := .ag es) hlo hes.stok (has_ofL z6 6 0 (by decide))
 rwa [hcl] at this
theorem re_get {es : List MV} (hes : ReC es) (t : Ev.T MV) : getN (setN es 0 t) 6 0 = some es := by
 have := getN_setN es 0 t
 rwa [hes.len] at this
theorem atom_any {d : Nat} (hd : d ≤ 20) (ih : d < 20 → AltIH (d + 1)) {M : MH} {rx : Nat} {s : ByteArray} {k : Nat} {c : Ev.T MV} {bad : Int} (hs : s.size ≤ 1000) (hlo : M.lo ≤ rx) (hk : k < s.size) (hr : RdAt M rx s k 0 c bad) : Cp fns 69 [.p rx 0, .i .i64 (d : Int)] M (PPost s rx d 1 k M) := by
 have hlt := hr.lt
 refine Cp_call (fn := F69) (by kernel_rfl) (Nat.le_of_ble_eq_true rfl) ?_
 show Wp fns B69 (T.set q1 (some (.i .i64 (d : Int))) (T.set q0 (some (.p rx 0)) T.lf)) M _
 unfold B69
 simp (disch := first | omega | assumption | (simp only [bZ, stOk, Nat.reduceBEq, Nat.reduceEqDiff, Nat.reduceAdd] <;> omega) | ((try apply has_setN); apply has_ofL; simp only [bxL]; omega)) only [↓bxD, bA, Nat.reduceBEq, reduceCtorEq, Nat.reduceAdd, Nat.reduceSub, Nat.reduceMul, Nat.reduceLeDiff, Nat.reduceLT]
 generalize hM1 : M.push _ = M1
 have g4 : M1.get M.n = some (.cs false 6 (ofL z6 0)) := by rw [← hM1]; exact push_new _
 have x1 : Ext M M1 := by rw [← hM1]; exact .push M _
 have n1 : M1.n = M.n + 1 := by rw [← hM1]; rfl
 have l1 := x1.lo
 clear hM1
 have hr1 := hr.ext x1
 have g := hr1.g
 have g0 := hr.g
 have c0 : cget c 0 = some (.s s) := hr.at_ 0 _ rfl
 have c1 : cget c 1 = some (.i .i64 (k : Int)) := hr.at_ 1 _ rfl
 have hb1 : hasB c 1 1 = true := has_at hr.at_ (Nat.zero_le _) (by show 1 + 1 ≤ 0 + 4; omega)
 have hk' : k < s.data.toList.length := by rw [Array.length_toList]; exact hk
 have hix : puM .ixT (.s s) (.i .i64 (k : Int)) = some (.i .u8 (s.data.toList[k].toNat : Int)) := by
  show (match s.data.toList[k]? with | some c => some (MV.i .u8 (.ofNat c.toNat)) | none => none) = _
  rw [List.getElem?_eq_getElem hk']
  rfl
 have hq256 : s.data.toList[k].toNat < 256 := s.data.toList[k].toNat_lt
 generalize s.data.toList[k].toNat = q at hix hq256
 have hon := hr1.on (k + 1)
 have hcast : ((k + 1 : Nat) : Int) = (k : Int) + 1 := by omega
 rw [hcast] at hon
 have hch1 : Chg (fun j => j = rx) M (M1.set rx (some (.cs false 4 (setN [MV.i .i64 ((k : Int) + 1)] 1 c)))) := (Chg.of x1).set _ (.inl rfl)
 have hg4 : (M1.set rx (some (.cs false 4 (setN [MV.i .i64 ((k : Int) + 1)] 1 c)))).get M.n = _ := (set_ne (by omega)).trans g4
 simp (disch := first | omega | assumption | (simp only [bZ, stOk, Nat.reduceBEq, Nat.reduceEqDiff, Nat.reduceAdd] <;> omega) | ((try apply has_setN); apply has_ofL; simp only [bxL]; omega)) only [↓bxD, bA, Nat.reduceBEq, reduceCtorEq, Nat.reduceAdd, Nat.reduceSub, Nat.reduceMul, Nat.reduceLeDiff, Nat.reduceLT, g, g0, c0, c1, hb1, hix, nck_p, Nat.zero_add, cells_i]
 by_cases q40 : (q : Int) = 40
 ·have e40 : decide ((q : Int) = 40) = true := decide_eq_true q40
  by_cases h20 : 20 ≤ d
  ·have e20 : decide ((20 : Int) ≤ (d : Int)) = true := decide_eq_true (by omega)
   simp (disch := first | omega | assumption | (simp only [bZ, stOk, Nat.reduceBEq, Nat.reduceEqDiff, Nat.reduceAdd] <;> omega) | ((try apply has_setN); apply has_ofL; simp only [bxL]; omega)) only [↓bxD, bA, Nat.reduceBEq, reduceCtorEq, Nat.reduceAdd, Nat.reduceSub, Nat.reduceMul, Nat.reduceLeDiff, Nat.reduceLT, g, g0, c0, c1, hb1, hix, e40, e20, nck_p, Nat.zero_add, cells_i]
   refine bindP_call (fail_any (z := 4) (by omega) hr1) ?_
   rintro m M4 ⟨⟨c4, bad4, h4⟩, hc4⟩
   have n4 := hc4.n
   have l4 := hc4.lo
   have g44 := (hc4.old _ (by omega) (by omega)).trans g4
   have hes := none_rec
   have hS : stW M4 6 M.n 0 (.ag z6) _ = _ := re_st (M' := M4) (id := M.n) hes (by omega)
   have hg6 : ∀ t, getN (setN z6 0 t) 6 0 = some z6 := fun t => re_get hes t
   have ff : fillM [] z6 = some z6 := rfl
   unfold z6 at hS hg6 ff g44
   simp (disch := first | omega | assumption | (simp only [bZ, stOk, Nat.reduceBEq, Nat.reduceEqDiff, Nat.reduceAdd] <;> omega) | ((try apply has_setN); apply has_ofL; simp only [bxL]; omega)) only [↓bxD, bA, Nat.reduceBEq, reduceCtorEq, Nat.reduceAdd, Nat.reduceSub, Nat.reduceMul, Nat.reduceLeDiff, Nat.reduceLT, g44, ff, hS, set_same, res_cN, cNV_p, cNo_cs, get_set, hg6, map_ag]
   refine atom_fin hes ⟨c4, bad4, h4⟩ hlt ((Chg.of x1).trans hc4) (by omega) fun q => by simp at q
  ·have e20 : decide ((20 : Int) ≤ (d : Int)) = false := decide_eq_false (by omega)
   have hdc : (d : Int) + 1 = ((d + 1 : Nat) : Int) := by omega
   simp (disch := first | omega | assumption | (simp only [bZ, stOk, Nat.reduceBEq, Nat.reduceEqDiff, Nat.reduceAdd] <;> omega) | ((try apply has_setN); apply has_ofL; simp only [bxL]; omega)) only [↓bxD, bA, Nat.reduceBEq, reduceCtorEq, Nat.reduceAdd, Nat.reduceSub, Nat.reduceMul, Nat.reduceLeDiff, Nat.reduceLT, g, g0, c0, c1, hb1, hix, e40, e20, hdc, nck_p, Nat.zero_add, cells_i]
   show Wp fns K69_1 _ _ _
   unfold K69_1
   simp (maxSteps := 4000000) (disch := first | omega | assumption | (simp only [bxS, bxV, stOk, Nat.reduceBEq, Nat.reduceEqDiff, Nat.reduceAdd]; done) | (simp only [bxU]; omega) | ((try apply has_setN); apply has_ofL; simp only [bxL]; omega)) only [↓bxD, bxP, bxQ, bxQ2, Nat.reduceBEq, reduceCtorEq, Nat.reduceAdd, Nat.reduceSub, Nat.reduceMul, Nat.reduceLeDiff, Nat.reduceLT, bxR, g, g0, c0, c1, hb1, hix, e40, e20, hdc, nck_p, Nat.zero_add, cells_i]
   generalize setN [MV.i .i64 ((k : Int) + 1)] 1 c = c2 at hon hch1 hg4 ⊢
   generalize hM2 : M1.set rx (some (.cs false 4 c2)) = M2 at hon hch1 hg4 ⊢
   have n2 : M2.n = M.n + 1 := by rw [← hM2]; exact n1
   have l2 := hch1.lo
   clear hM2
   refine bindP_call (ih (by omega) M2 rx s (k + 1) c2 bad hs (by omega) (by omega) hon) ?_
   rintro m M3 ⟨e3, k3, es, rfl, hes, ⟨c3, bad3, h3⟩, hc3, hk3, hx3⟩
   have n3 := hc3.n
   have l3 := hc3.lo
   have hes1 := hes.stok
   have hcl : MV.cells (.ag es) = es := by obtain ⟨_, _, _, _, _, _, rfl, _⟩ := hes; rfl
   simp (disch := first | omega | assumption | (simp only [bZ, stOk, Nat.reduceBEq, Nat.reduceEqDiff, Nat.reduceAdd] <;> omega) | ((try apply has_setN); apply has_ofL; simp only [bxL]; omega)) only [↓bxD, bA, Nat.reduceBEq, reduceCtorEq, Nat.reduceAdd, Nat.reduceSub, Nat.reduceMul, Nat.reduceLeDiff, Nat.reduceLT, hes1, hcl]
   generalize hM4 : (M3.push _).set M3.n _ = M4
   have x4 : Ext M3 M4 := by rw [← hM4]; exact (Ext.push M3 _).set _ (Nat.le_refl _)
   have n4 : M4.n = M3.n + 1 := by rw [← hM4]; rfl
   have l4 := x4.lo
   have g7 : M4.get M3.n = some (.cs false 6 (setN es 0 (ofL z6 0))) := by rw [← hM4, set_same]; rfl
   clear hM4
   have h34 := h3.ext x4
   have g34 := h34.g
   have g33 := h3.g
   have e2' : cget c3 2 = some (.i .i64 e3) := h3.at_ 2 _ rfl
   have e1' : cget c3 1 = some (.i .i64 (k3 : Int)) := h3.at_ 1 _ rfl
   have g44 := (x4.old _ (by omega)).trans ((hc3.old _ (by omega) (by omega)).trans hg4)
   have hk31 : k3 + 1 + d ≤ s.size + 23 := by omega
   have tail : ∀ (f' : Fr) (M5 : MH) (e5 : Int) (c5 : Ev.T MV) (bad5 : Int), X.ev f' (.t q0) = .p rx 0 → X.ev f' (.t q4) = .p M.n 0 → X.ev f' (.t q7) = .p M3.n 0 → RdAt M5 rx s k3 e5 c5 bad5 → Chg (fun j => j = rx) M4 M5 → (e5 = 0 → e3 = 0 ∧ k3 < s.size) → Wp fns K69_0 f' M5 (blockQ 0 (thenQ fns K69_3 (retQ F69 (PPost s rx d 1 k M)))) := by
    intro f' M5 e5 c5 bad5 h0 h4 h7 h5 hc5 he5
    have n5 := hc5.n
    have l5 := hc5.lo
    have g5 := h5.g
    have f1 : cget c5 1 = some (.i .i64 (k3 : Int)) := h5.at_ 1 _ rfl
    have hb5 : hasB c5 1 1 = true := has_at h5.at_ (Nat.zero_le _) (by show 1 + 1 ≤ 0 + 4; omega)
    have hon5 := h5.on (k3 + 1)
    have hcast5 : ((k3 + 1 : Nat) : Int) = (k3 : Int) + 1 := by omega
    rw [hcast5] at hon5
    have g70 := (hc5.old M3.n (by omega) (by omega)).trans g7
    have g75 : (M5.set rx (some (.cs false 4 (setN [MV.i .i64 ((k3 : Int) + 1)] 1 c5)))).get M3.n = _ := (set_ne (by omega)).trans ((hc5.old _ (by omega) (by omega)).trans g7)
    have g45 : (M5.set rx (some (.cs false 4 (setN [MV.i .i64 ((k3 : Int) + 1)] 1 c5)))).get M.n = _ := (set_ne (by omega)).trans ((hc5.old _ (by omega) (by omega)).trans g44)
    have hcs : Chg (fun j => j = rx) M4 (M5.set rx (some (.cs false 4 (setN [MV.i .i64 ((k3 : Int) + 1)] 1 c5)))) := hc5.set _ (.inl rfl)
    have h4' := slot_get h4
    simp only [q0, q4, q7] at h0 h4 h7 h4'
    have hg7 := re_get hes (ofL z6 0)
    unfold K69_0
    simp (disch := first | omega | assumption | (simp only [bZ, stOk, Nat.reduceBEq, Nat.reduceEqDiff, Nat.reduceAdd] <;> omega) | ((try apply has_setN); apply has_ofL; simp only [bxL]; omega)) only [↓bxD, bA, Nat.reduceBEq, reduceCtorEq, Nat.reduceAdd, Nat.reduceSub, Nat.reduceMul, Nat.reduceLeDiff, Nat.reduceLT, h0, h4, h7, g5, f1, hb5, nck_p, Nat.zero_add, cells_i]
    generalize setN [MV.i .i64 ((k3 : Int) + 1)] 1 c5 = c6 at hon5 g75 g45 hcs ⊢
    generalize hM6 : M5.set rx (some (.cs false 4 c6)) = M6 at hon5 g75 g45 hcs ⊢
    have n6 := hcs.n
    have l6 := hcs.lo
    clear hM6
    have hS := re_st (M' := M6) (id := M.n) hes (by omega)
    simp (disch := first | omega | assumption | (simp only [bZ, stOk, Nat.reduceBEq, Nat.reduceEqDiff, Nat.reduceAdd] <;> omega) | ((try apply has_setN); apply has_ofL; simp only [bxL]; omega)) only [↓bxD, bA, Nat.reduceBEq, reduceCtorEq, Nat.reduceAdd, Nat.reduceSub, Nat.reduceMul, Nat.reduceLeDiff, Nat.reduceLT, h0, h4, h4', h7, g70, g75, g45, hg7, hS, set_same, res_cN, cNV_p, cNo_cs, get_set, map_ag]
    refine atom_fin hes ⟨c6, bad5, hon5⟩ hlt ((hch1.trans hc3).trans ((Chg.of x4).trans hcs)) hk31 fun q => ?_
    obtain ⟨e30, hk3s⟩ := he5 q
    obtain ⟨w1, w2, x, w3, w4, w5⟩ := hx3 e30
    refine ⟨by omega, by omega, x, XIn.more (S := fun j => M2.n ≤ j) (S' := fun j => M.n < j) (M := M3) (M' := M6) (by omega) (fun j hj hj2 => ⟨by omega, (hcs.old j (by omega) (by omega)).trans (x4.old j hj2)⟩) w3, w4, by omega⟩
   by_cases he3 : e3 = 0
   ·subst he3
    simp (disch := first | omega | assumption | (simp only [bZ, stOk, Nat.reduceBEq, Nat.reduceEqDiff, Nat.reduceAdd] <;> omega) | ((try apply has_setN); apply has_ofL; simp only [bxL]; omega)) only [↓bxD, bA, Nat.reduceBEq, reduceCtorEq, Nat.reduceAdd, Nat.reduceSub, Nat.reduceMul, Nat.reduceLeDiff, Nat.reduceLT, g33, g34, e2', e1', nck_p, Nat.zero_add]
    refine bindP_call (is_any (q := 41) (by omega) h34) ?_
    rintro m M5 ⟨⟨r, rfl, hr5⟩, x5⟩
    have n5 := x5.n
    have l5 := x5.lo
    have h45 := h34.ext x5
    have g45 := h45.g
    cases r with
    | true =>
     simp (disch := first | omega | assumption | (simp only [bZ, stOk, Nat.reduceBEq, Nat.reduceEqDiff, Nat.reduceAdd] <;> omega) | ((try apply has_setN); apply has_ofL; simp only [bxL]; omega)) only [↓bxD, bA, Nat.reduceBEq, reduceCtorEq, Nat.reduceAdd, Nat.reduceSub, Nat.reduceMul, Nat.reduceLeDiff, Nat.reduceLT, g33, g34, e2', e1', nck_p, Nat.zero_add]
     show Wp fns K69_0 _ _ _
     exact tail _ M5 0 c3 bad3 (by simp only [bxP, bxQ, bxQ2, reduceCtorEq, g33, g34, e2', e1', nck_p, Nat.zero_add]) (by simp only [bxP, bxQ, bxQ2, reduceCtorEq, g33, g34, e2', e1', nck_p, Nat.zero_add]) (by simp only [bxP, bxQ, bxQ2, reduceCtorEq, g33, g34, e2', e1', nck_p, Nat.zero_add]) h45 (.of x5) fun _ => ⟨rfl, hr5 rfl⟩
    | false =>
     simp (disch := first | omega | assumption | (simp only [bZ, stOk, Nat.reduceBEq, Nat.reduceEqDiff, Nat.reduceAdd] <;> omega) | ((try apply has_setN); apply has_ofL; simp only [bxL]; omega)) only [↓bxD, bA, Nat.reduceBEq, reduceCtorEq, Nat.reduceAdd, Nat.reduceSub, Nat.reduceMul, Nat.reduceLeDiff, Nat.reduceLT, g45, e1', nck_p, Nat.zero_add]
     refine bindP_call (fail_any (z := 2) (by omega) h45) ?_
     rintro m M6 ⟨⟨c6, bad6, h6⟩, hc6⟩
     simp (disch := first | omega | assumption | (simp only [bZ, stOk, Nat.reduceBEq, Nat.reduceEqDiff, Nat.reduceAdd] <;> omega) | ((try apply has_setN); apply has_ofL; simp only [bxL]; omega)) only [↓bxD, bA, Nat.reduceBEq, reduceCtorEq, Nat.reduceAdd, Nat.reduceSub, Nat.reduceMul, Nat.reduceLeDiff, Nat.reduceLT, g45, e1', nck_p, Nat.zero_add]
     show Wp fns K69_0 _ _ _
     exact tail _ M6 _ c6 bad6 (by simp only [bxP, bxQ, bxQ2, reduceCtorEq, g45, e1', nck_p, Nat.zero_add]) (by simp only [bxP, bxQ, bxQ2, reduceCtorEq, g45, e1', nck_p, Nat.zero_add]) (by simp only [bxP, bxQ, bxQ2, reduceCtorEq, g45, e1', nck_p, Nat.zero_add]) h6 ((Chg.of x5).trans hc6) fun q => by simp at q
   ·have ed : decide (e3 = 0) = false := decide_eq_false he3
    simp (disch := first | omega | assumption | (simp only [bZ, stOk, Nat.reduceBEq, Nat.reduceEqDiff, Nat.reduceAdd] <;> omega) | ((try apply has_setN); apply has_ofL; simp only [bxL]; omega)) only [↓bxD, bA, Nat.reduceBEq, reduceCtorEq, Nat.reduceAdd, Nat.reduceSub, Nat.reduceMul, Nat.reduceLeDiff, Nat.reduceLT, g33, g34, e2', ed, nck_p, Nat.zero_add]
    show Wp fns K69_0 _ _ _
    exact tail _ M4 e3 c3 bad3 (by simp only [bxP, bxQ, bxQ2, reduceCtorEq, g33, g34, e2', ed, nck_p, Nat.zero_add]) (by simp only [bxP, bxQ, bxQ2, reduceCtorEq, g33, g34, e2', ed, nck_p, Nat.zero_add]) (by simp only [bxP, bxQ, bxQ2, reduceCtorEq, g33, g34, e2', ed, nck_p, Nat.zero_add]) h34 (.refl _ _) fun q => absurd q he3
 ·have e40 : decide ((q : Int) = 40) = false := decide_eq_false q40
  by_cases q46 : (q : Int) = 46
  ·have e46 : decide ((q : Int) = 46) = true := decide_eq_true q46
   simp (disch := first | omega | assumption | (simp only [bZ, stOk, Nat.reduceBEq, Nat.reduceEqDiff, Nat.reduceAdd] <;> omega) | ((try apply has_setN); apply has_ofL; simp only [bxL]; omega)) only [↓bxD, bA, Nat.reduceBEq, reduceCtorEq, Nat.reduceAdd, Nat.reduceSub, Nat.reduceMul, Nat.reduceLeDiff, Nat.reduceLT, g, g0, c0, c1, hb1, hix, e40, e46, nck_p, Nat.zero_add, cells_i]
   generalize setN [MV.i .i64 ((k : Int) + 1)] 1 c = c2 at hon hch1 hg4 ⊢
   generalize hM2 : M1.set rx (some (.cs false 4 c2)) = M2 at hon hch1 hg4 ⊢
   have n2 : M2.n = M.n + 1 := by rw [← hM2]; exact n1
   have l2 := hch1.lo
   clear hM2
   refine bindP_call (dot_any (by omega)) ?_
   rintro m M3 ⟨⟨a, b, c', d', rfl⟩, x3⟩
   have n3 := x3.n
   have l3 := x3.lo
   have g43 := (x3.old _ (by omega)).trans hg4
   have hes := leaf_rec a b c' d'
   have hS := re_st (M' := M3) (id := M.n) hes (by omega)
   have ff : fillM [(0, 1, MV.i .i64 1), (1, 4, MV.ag (st4 a b c' d'))] [.i .i64 0, .i .u64 0, .i .u64 0, .i .u64 0, .i .u64 0, .nils] = some (leafC a b c' d') := rfl
   have hg6 := re_get hes (ofL z6 0)
   simp (disch := first | omega | assumption | (simp only [bZ, stOk, Nat.reduceBEq, Nat.reduceEqDiff, Nat.reduceAdd] <;> omega) | ((try apply has_setN); apply has_ofL; simp only [bxL]; omega)) only [↓bxD, bA, Nat.reduceBEq, reduceCtorEq, Nat.reduceAdd, Nat.reduceSub, Nat.reduceMul, Nat.reduceLeDiff, Nat.reduceLT, g43, ff, hS, set_same, res_cN, cNV_p, cNo_cs, get_set, hg6, map_ag]
   refine atom_fin hes ⟨c2, bad, hon.ext x3⟩ hlt (hch1.trans (.of x3)) (by omega) fun _ => ⟨by omega, by omega, _, (leaf_in _ _ a b c' d').1, (leaf_in (fun _ => True) M3 a b c' d').2.1, by rw [(leaf_in (fun _ => True) M3 a b c' d').2.2]; omega⟩
  ·have e46 : decide ((q : Int) = 46) = false := decide_eq_false q46
   by_cases q92 : (q : Int) = 92
   ·have e92 : decide ((q : Int) = 92) = true := decide_eq_true q92
    simp (disch := first | omega | assumption | (simp only [bZ, stOk, Nat.reduceBEq, Nat.reduceEqDiff, Nat.reduceAdd] <;> omega) | ((try apply has_setN); apply has_ofL; simp only [bxL]; omega)) only [↓bxD, bA, Nat.reduceBEq, reduceCtorEq, Nat.reduceAdd, Nat.reduceSub, Nat.reduceMul, Nat.reduceLeDiff, Nat.reduceLT, g, g0, c0, c1, hb1, hix, e40, e46, e92, nck_p, Nat.zero_add, cells_i]
    generalize setN [MV.i .i64 ((k : Int) + 1)] 1 c = c2 at hon hch1 hg4 ⊢
    generalize hM2 : M1.set rx (some (.cs false 4 c2)) = M2 at hon hch1 hg4 ⊢
    have n2 : M2.n = M.n + 1 := by rw [← hM2]; exact n1
    have l2 := hch1.lo
    clear hM2
    refine bindP_call (over_any (by omega) hon) ?_
    rintro m M3 ⟨rfl, x3⟩
    have n3 := x3.n
    have l3 := x3.lo
    have h3 := hon.ext x3
    have g3 := h3.g
    have d0 : cget c2 0 = some (.s s) := hon.at_ 0 _ rfl
    have d1 : cget c2 1 = some (.i .i64 ((k + 1 : Nat) : Int)) := hon.at_ 1 _ rfl
    have g43 := (x3.old _ (by omega)).trans hg4
    by_cases ho : s.size ≤ k + 1
    ·have ed : decide (s.size ≤ k + 1) = true := decide_eq_true ho
     simp (disch := first | omega | assumption | (simp only [bZ, stOk, Nat.reduceBEq, Nat.reduceEqDiff, Nat.reduceAdd] <;> omega) | ((try apply has_setN); apply has_ofL; simp only [bxL]; omega)) only [↓bxD, bA, Nat.reduceBEq, reduceCtorEq, Nat.reduceAdd, Nat.reduceSub, Nat.reduceMul, Nat.reduceLeDiff, Nat.reduceLT, g3, d0, d1, ed, nck_p, Nat.zero_add]
     refine bindP_call (fail_any (z := 2) (by omega) h3) ?_
     rintro m M4 ⟨⟨c4, bad4, h4⟩, hc4⟩
     have n4 := hc4.n
     have l4 := hc4.lo
     have g44 := (hc4.old _ (by omega) (by omega)).trans g43
     have hes := none_rec
     have hS : stW M4 6 M.n 0 (.ag z6) _ = _ := re_st (M' := M4) (id := M.n) hes (by omega)
     have hg6 : ∀ t, getN (setN z6 0 t) 6 0 = some z6 := fun t => re_get hes t
     have ff : fillM [] z6 = some z6 := rfl
     unfold z6 at hS hg6 ff g44
     simp (disch := first | omega | assumption | (simp only [bZ, stOk, Nat.reduceBEq, Nat.reduceEqDiff, Nat.reduceAdd] <;> omega) | ((try apply has_setN); apply has_ofL; simp only [bxL]; omega)) only [↓bxD, bA, Nat.reduceBEq, reduceCtorEq, Nat.reduceAdd, Nat.reduceSub, Nat.reduceMul, Nat.reduceLeDiff, Nat.reduceLT, g44, ff, hS, set_same, res_cN, cNV_p, cNo_cs, get_set, hg6, map_ag]
     refine atom_fin hes ⟨c4, bad4, h4⟩ hlt ((hch1.trans (.of x3)).trans hc4) (by omega) fun q => by simp at q
    ·have ed : decide (s.size ≤ k + 1) = false := decide_eq_false ho
     have hb2 : hasB c2 1 1 = true := has_at hon.at_ (Nat.zero_le _) (by show 1 + 1 ≤ 0 + 4; omega)
     have hon2 := h3.on (k + 1 + 1)
     have hcast2 : ((k + 1 + 1 : Nat) : Int) = (k : Int) + 1 + 1 := by omega
     rw [hcast2] at hon2
     rw [hcast] at d1
     have hg42 : (M3.set rx (some (.cs false 4 (setN [MV.i .i64 ((k : Int) + 1 + 1)] 1 c2)))).get M.n = _ := (set_ne (by omega)).trans g43
     have hch2 : Chg (fun j => j = rx) M (M3.set rx (some (.cs false 4 (setN [MV.i .i64 ((k : Int) + 1 + 1)] 1 c2)))) := (hch1.trans (.of x3)).set _ (.inl rfl)
     simp (disch := first | omega | assumption | (simp only [bZ, stOk, Nat.reduceBEq, Nat.reduceEqDiff, Nat.reduceAdd] <;> omega) | ((try apply has_setN); apply has_ofL; simp only [bxL]; omega)) only [↓bxD, bA, Nat.reduceBEq, reduceCtorEq, Nat.reduceAdd, Nat.reduceSub, Nat.reduceMul, Nat.reduceLeDiff, Nat.reduceLT, g3, d0, d1, hb2, ed, nck_p, Nat.zero_add, cells_i]
     show Wp fns K69_2 _ _ _
     unfold K69_2
     simp (disch := first | omega | assumption | (simp only [bZ, stOk, Nat.reduceBEq, Nat.reduceEqDiff, Nat.reduceAdd] <;> omega) | ((try apply has_setN); apply has_ofL; simp only [bxL]; omega)) only [↓bxD, bA, Nat.reduceBEq, reduceCtorEq, Nat.reduceAdd, Nat.reduceSub, Nat.reduceMul, Nat.reduceLeDiff, Nat.reduceLT, g3, d0, d1, hb2, ed, nck_p, Nat.zero_add, cells_i]
     generalize setN [MV.i .i64 ((k : Int) + 1 + 1)] 1 c2 = c3 at hon2 hch2 hg42 ⊢
     generalize hM4 : M3.set rx (some (.cs false 4 c3)) = M4 at hon2 hch2 hg42 ⊢
     have n4 : M4.n = M3.n := by rw [← hM4]; rfl
     have l4 := hch2.lo
     clear hM4
     have f0 : cget c3 0 = some (.s s) := hon2.at_ 0 _ rfl
     have f1 : cget c3 1 = some (.i .i64 ((k : Int) + 1 + 1)) := by have := hon2.at_ 1 _ rfl; rwa [hcast2] at this
     have g4' := hon2.g
     refine Wp_dreg_of (by omega) ?_
     have hk2' : k + 1 < s.data.toList.length := by rw [Array.length_toList]; exact Nat.lt_of_not_le ho
     have hix2 : puM .ixT (.s s) (.i .i64 ((k : Int) + 1)) = some (.i .u8 (s.data.toList[k + 1].toNat : Int)) := by
      show (match s.data.toList[k + 1]? with | some c => some (MV.i .u8 (.ofNat c.toNat)) | none => none) = _
      rw [List.getElem?_eq_getElem hk2']
      rfl
     have hsub : (k : Int) + 1 + 1 - 1 = (k : Int) + 1 := by omega
     have hq2 : s.data.toList[k + 1].toNat < 256 := s.data.toList[k + 1].toNat_lt
     simp (disch := first | omega | assumption | (simp only [bZ, stOk, Nat.reduceBEq, Nat.reduceEqDiff, Nat.reduceAdd] <;> omega) | ((try apply has_setN); apply has_ofL; simp only [bxL]; omega)) only [↓bxD, bA, Nat.reduceBEq, reduceCtorEq, Nat.reduceAdd, Nat.reduceSub, Nat.reduceMul, Nat.reduceLeDiff, Nat.reduceLT, g4', f0, f1, hsub, hix2, nck_p, Nat.zero_add]
     refine bindP_call (one_any hq2 (by omega)) ?_
     rintro m M5 ⟨⟨a, b, c', d', rfl⟩, x5⟩
     have n5 := x5.n
     have l5 := x5.lo
     have g45 := (x5.old _ (by omega)).trans hg42
     have hes := leaf_rec a b c' d'
     have hS : stW M5 6 M.n 0 (.ag [.i .i64 1, .i .u64 a, .i .u64 b, .i .u64 c', .i .u64 d', .nils]) _ = _ := re_st (M' := M5) (id := M.n) hes (by omega)
     have hg6 := re_get hes (ofL z6 0)
     unfold leafC at hS hg6
     simp (disch := first | omega | assumption | (simp only [bZ, stOk, Nat.reduceBEq, Nat.reduceEqDiff, Nat.reduceAdd] <;> omega) | ((try apply has_setN); apply has_ofL; simp only [bxL]; omega)) only [↓bxD, bA, Nat.reduceBEq, reduceCtorEq, Nat.reduceAdd, Nat.reduceSub, Nat.reduceMul, Nat.reduceLeDiff, Nat.reduceLT, g45, hS, set_same, res_cN, cNV_p, cNo_cs, get_set, hg6, map_ag]
     show Wp fns IC.ret _ _ _
     simp (disch := first | omega | assumption | (simp only [bZ, stOk, Nat.reduceBEq, Nat.reduceEqDiff, Nat.reduceAdd] <;> omega) | ((try apply has_setN); apply has_ofL; simp only [bxL]; omega)) only [↓bxD, bA, Nat.reduceBEq, reduceCtorEq, Nat.reduceAdd, Nat.reduceSub, Nat.reduceMul, Nat.reduceLeDiff, Nat.reduceLT, g45, hS, set_same, res_cN, cNV_p, cNo_cs, get_set, hg6, map_ag]
     refine atom_fin hes ⟨c3, bad, hon2.ext x5⟩ hlt (hch2.trans (.of x5)) (by omega) fun _ => ⟨by omega, by omega, _, (leaf_in _ _ a b c' d').1, (leaf_in (fun _ => True) M5 a b c' d').2.1, by rw [(leaf_in (fun _ => True) M5 a b c' d').2.2]; omega⟩
   ·have e92 : decide ((q : Int) = 92) = false := decide_eq_false q92
    by_cases q91 : (q : Int) = 91
    ·have e91 : decide ((q : Int) = 91) = true := decide_eq_true q91
     simp (disch := first | omega | assumption | (simp only [bZ, stOk, Nat.reduceBEq, Nat.reduceEqDiff, Nat.reduceAdd] <;> omega) | ((try apply has_setN); apply has_ofL; simp only [bxL]; omega)) only [↓bxD, bA, Nat.reduceBEq, reduceCtorEq, Nat.reduceAdd, Nat.reduceSub, Nat.reduceMul, Nat.reduceLeDiff, Nat.reduceLT, g, g0, c0, c1, hb1, hix, e40, e46, e92, e91, nck_p, Nat.zero_add, cells_i]
     generalize setN [MV.i .i64 ((k : Int) + 1)] 1 c = c2 at hon hch1 hg4 ⊢
     generalize hM2 : M1.set rx (some (.cs false 4 c2)) = M2 at hon hch1 hg4 ⊢
     have n2 : M2.n = M.n + 1 := by rw [← hM2]; exact n1
     have l2 := hch1.lo
     clear hM2
     refine bindP_call (class_any hs (by omega) (by omega) hon) ?_
     rintro m M3 ⟨e3, k3, a, b, c', d', rfl, hr3, hc3, hk3, hk3', hk3e⟩
     have n3 := hc3.n
     have l3 := hc3.lo
     have g43 := (hc3.old _ (by omega) (by omega)).trans hg4
     have hes := leaf_rec a b c' d'
     have hS : stW M3 6 M.n 0 (.ag [.i .i64 1, .i .u64 a, .i .u64 b, .i .u64 c', .i .u64 d', .nils]) _ = _ := re_st (M' := M3) (id := M.n) hes (by omega)
     have hg6 := re_get hes (ofL z6 0)
     unfold leafC at hS hg6
     simp (disch := first | omega | assumption | (simp only [bZ, stOk, Nat.reduceBEq, Nat.reduceEqDiff, Nat.reduceAdd] <;> omega) | ((try apply has_setN); apply has_ofL; simp only [bxL]; omega)) only [↓bxD, bA, Nat.reduceBEq, reduceCtorEq, Nat.reduceAdd, Nat.reduceSub, Nat.reduceMul, Nat.reduceLeDiff, Nat.reduceLT, g43, hS, set_same, res_cN, cNV_p, cNo_cs, get_set, hg6, map_ag]
     refine atom_fin hes hr3 hlt (hch1.trans hc3) (by omega) fun q => ⟨by omega, hk3e q, _, (leaf_in _ _ a b c' d').1, (leaf_in (fun _ => True) M3 a b c' d').2.1, by rw [(leaf_in (fun _ => True) M3 a b c' d').2.2]; omega⟩
    ·have e91 : decide ((q : Int) = 91) = false := decide_eq_false q91
     simp (disch := first | omega | assumption | (simp only [bZ, stOk, Nat.reduceBEq, Nat.reduceEqDiff, Nat.reduceAdd] <;> omega) | ((try apply has_setN); apply has_ofL; simp only [bxL]; omega)) only [↓bxD, bA, Nat.reduceBEq, reduceCtorEq, Nat.reduceAdd, Nat.reduceSub, Nat.reduceMul, Nat.reduceLeDiff, Nat.reduceLT, g, g0, c0, c1, hb1, hix, e40, e46, e92, e91, nck_p, Nat.zero_add, cells_i]
     refine bindP_call special_any ?_
     rintro m M3 ⟨⟨r, rfl⟩, hM3⟩
     obtain rfl : M1 = M3 := hM3.symm
     cases r with
     | true =>
      simp (disch := first | omega | assumption | (simp only [bZ, stOk, Nat.reduceBEq, Nat.reduceEqDiff, Nat.reduceAdd] <;> omega) | ((try apply has_setN); apply has_ofL; simp only [bxL]; omega)) only [↓bxD, bA, Nat.reduceBEq, reduceCtorEq, Nat.reduceAdd, Nat.reduceSub, Nat.reduceMul, Nat.reduceLeDiff, Nat.reduceLT, g, g0, c0, c1, hb1, hix, e40, e46, e92, e91, nck_p, Nat.zero_add, cells_i]
      refine bindP_call (fail_any (z := 2) (by omega) hr1) ?_
      rintro m M4 ⟨⟨c4, bad4, h4⟩, hc4⟩
      have n4 := hc4.n
      have l4 := hc4.lo
      have g44 := (hc4.old _ (by omega) (by omega)).trans g4
      have hes := none_rec
      have hS : stW M4 6 M.n 0 (.ag z6) _ = _ := re_st (M' := M4) (id := M.n) hes (by omega)
      have hg6 : ∀ t, getN (setN z6 0 t) 6 0 = some z6 := fun t => re_get hes t
      have ff : fillM [] z6 = some z6 := rfl
      unfold z6 at hS hg6 ff g44
      simp (disch := first | omega | assumption | (simp only [bZ, stOk, Nat.reduceBEq, Nat.reduceEqDiff, Nat.reduceAdd] <;> omega) | ((try apply has_setN); apply has_ofL; simp only [bxL]; omega)) only [↓bxD, bA, Nat.reduceBEq, reduceCtorEq, Nat.reduceAdd, Nat.reduceSub, Nat.reduceMul, Nat.reduceLeDiff, Nat.reduceLT, g44, ff, hS, set_same, res_cN, cNV_p, cNo_cs, get_set, hg6, map_ag]
      refine atom_fin hes ⟨c4, bad4, h4⟩ hlt ((Chg.of x1).trans hc4) (by omega) fun q => by simp at q
     | false =>
      simp (disch := first | omega | assumption | (simp only [bZ, stOk, Nat.reduceBEq, Nat.reduceEqDiff, Nat.reduceAdd] <;> omega) | ((try apply has_setN); apply has_ofL; simp only [bxL]; omega)) only [↓bxD, bA, Nat.reduceBEq, reduceCtorEq, Nat.reduceAdd, Nat.reduceSub, Nat.reduceMul, Nat.reduceLeDiff, Nat.reduceLT, g, g0, c0, c1, hb1, hix, e40, e46, e92, e91, nck_p, Nat.zero_add, cells_i]
      show Wp fns K69_3 _ _ _
      unfold K69_3
      simp (disch := first | omega | assumption | (simp only [bZ, stOk, Nat.reduceBEq, Nat.reduceEqDiff, Nat.reduceAdd] <;> omega) | ((try apply has_setN); apply has_ofL; simp only [bxL]; omega)) only [↓bxD, bA, Nat.reduceBEq, reduceCtorEq, Nat.reduceAdd, Nat.reduceSub, Nat.reduceMul, Nat.reduceLeDiff, Nat.reduceLT, g, g0, c0, c1, hb1, hix, e40, e46, e92, e91, nck_p, Nat.zero_add, cells_i]
      generalize setN [MV.i .i64 ((k : Int) + 1)] 1 c = c2 at hon hch1 hg4 ⊢
      generalize hM2 : M1.set rx (some (.cs false 4 c2)) = M2 at hon hch1 hg4 ⊢
      have n2 : M2.n = M.n + 1 := by rw [← hM2]; exact n1
      have l2 := hch1.lo
      clear hM2
      refine bindP_call (one_any hq256 (by omega)) ?_
      rintro m M5 ⟨⟨a, b, c', d', rfl⟩, x5⟩
      have n5 := x5.n
      have l5 := x5.lo
      have g45 := (x5.old _ (by omega)).trans hg4
      have hes := leaf_rec a b c' d'
      have hS : stW M5 6 M.n 0 (.ag [.i .i64 1, .i .u64 a, .i .u64 b, .i .u64 c', .i .u64 d', .nils]) _ = _ := re_st (M' := M5) (id := M.n) hes (by omega)
      have hg6 := re_get hes (ofL z6 0)
      unfold leafC at hS hg6
      simp (disch := first | omega | assumption | (simp only [bZ, stOk, Nat.reduceBEq, Nat.reduceEqDiff, Nat.reduceAdd] <;> omega) | ((try apply has_setN); apply has_ofL; simp only [bxL]; omega)) only [↓bxD, bA, Nat.reduceBEq, reduceCtorEq, Nat.reduceAdd, Nat.reduceSub, Nat.reduceMul, Nat.reduceLeDiff, Nat.reduceLT, g45, hS, set_same, res_cN, cNV_p, cNo_cs, get_set, hg6, map_ag]
      refine atom_fin hes ⟨c2, bad, hon.ext x5⟩ hlt (hch1.trans (.of x5)) (by omega) fun _ => ⟨by omega, by omega, _, (leaf_in _ _ a b c' d').1, (leaf_in (fun _ => True) M5 a b c' d').2.1, by rw [(leaf_in (fun _ => True) M5 a b c' d').2.2]; omega⟩
structure RpSt (M0 M : MH) (rx d k xid : Nat) (s : ByteArray) (k' : Nat) (e : Int) (es : List MV) (f : Fr) : Prop where
 rd : ∃ c bad, RdAt M rx s k' e c bad
 ch : Chg (fun j => j = rx) M0 M
 rx0 : rx < M0.n
 lo : M0.lo ≤ rx
 sz : s.size ≤ 1000
 g4 : M.get M0.n = some (.cs false 6 (ofL z6 0))
 x1 : M0.n < xid ∧ xid < M.n
 g5 : ∃ t, M.get xid = some (.cs false 6 t) ∧ At t 0 es
 re : ReC es
 hd : d ≤ 20
 hk : k' + d ≤ s.size + 23
 ok : e = 0 → k + 1 ≤ k' ∧ k' ≤ s.size ∧ ∃ x, XIn (fun j => M0.n < j ∧ j ≠ xid) M es x ∧ Wk x ∧ wei x + 4 ≤ 4 * (k' - k) + 2
 f0 : X.ev f (.t q0) = .p rx 0
 f4 : X.ev f (.t q4) = .p M0.n 0
 f5 : X.ev f (.t q5) = .p xid 0
theorem RpSt.ext {M0 M M' : MH} {rx d k xid : Nat} {s : ByteArray} {k' : Nat} {e : Int} {es : List MV} {f f' : Fr} (h : RpSt M0 M rx d k xid s k' e es f) (x : Ext M M') (e0 : X.ev f' (.t q0) = X.ev f (.t q0)) (e4 : X.ev f' (.t q4) = X.ev f (.t q4)) (e5 : X.ev f' (.t q5) = X.ev f (.t q5)) : RpSt M0 M' rx d k xid s k' e es f' := by
 obtain ⟨c, bad, hr⟩ := h.rd
 obtain ⟨t, g, hA⟩ := h.g5
 obtain ⟨y1, y2⟩ := h.x1
 refine ⟨⟨c, bad, hr.ext x⟩, h.ch.trans (.of x), h.rx0, h.lo, h.sz, (x.old _ (by omega)).trans h.g4, ⟨y1, Nat.lt_of_lt_of_le y2 x.n⟩, ⟨t, (x.old _ y2).trans g, hA⟩, h.re, h.hd, h.hk, fun q => ?_, e0.trans h.f0, e4.trans h.f4, e5.trans h.f5⟩
 obtain ⟨w1, w2, y, w3, w4, w5⟩ := h.ok q
 exact ⟨w1, w2, y, XIn.more x.n (fun j hj hj2 => ⟨hj, x.old j hj2⟩) w3, w4, w5⟩
theorem rep_end {M0 M : MH} {rx d k xid : Nat} {s : ByteArray} {k' : Nat} {e : Int} {es : List MV} {f : Fr} (h : RpSt M0 M rx d k xid s k' e es f) : Wp fns K60_4 f M (retQ F60 (PPost s rx d 1 k M0)) := by
 have h4 := h.f4
 have h4' := slot_get h4
 have h5 := h.f5
 obtain ⟨t, g5, hA⟩ := h.g5
 have hes := h.re
 have hN : getN t 6 0 = some es := by have := hA.getN; rwa [hes.len] at this
 have g4 := h.g4
 have hn := h.ch.n
 have hl := h.ch.lo
 have hrx := h.rx0
 have hlo := h.lo
 have hS := re_st (M' := M) (id := M0.n) hes (by omega)
 have hg6 := re_get hes (ofL z6 0)
 simp only [q4, q5] at h4 h4' h5
 unfold K60_4
 simp (disch := first | omega | assumption) only [↓bxD, bA, reduceCtorEq, h4, h4', h5, g5, g4, hN, hS, set_same, res_cN, cNV_p, cNo_cs, get_set, hg6, map_ag]
 refine atom_fin hes h.rd hrx h.ch h.hk fun q => ?_
 obtain ⟨w1, w2, y, w3, w4, w5⟩ := h.ok q
 exact ⟨w1, w2, y, XIn.more (Nat.le_refl _) (fun j hj _ => ⟨hj.1, rfl⟩) w3, w4, by omega⟩
theorem rep_body {M0 M : MH} {rx d k xid : Nat} {s : ByteArray} {k' : Nat} {es : List MV} {f : Fr} (h : RpSt M0 M rx d k xid s k' 0 es f) (hk : k' < s.size) (Q : Post) (hQ : ∀ f' M' es', RpSt M0 M' rx d k xid s (k' + 1) 0 es' f' → Q .norm f' M') : Wp fns K60_2 f M Q := by
 obtain ⟨c, bad, hr⟩ := h.rd
 have h0 := h.f0
 have h4 := h.f4
 have h5 := h.f5
 obtain ⟨t, g5, hA⟩ := h.g5
 have hes := h.re
 have hN : getN t 6 0 = some es := by have := hA.getN; rwa [hes.len] at this
 have hn := h.ch.n
 have hl := h.ch.lo
 have hrx := h.rx0
 have hlo := h.lo
 have hsz := h.sz
 obtain ⟨y1, y2⟩ := h.x1
 have fin : ∀ (f' : Fr) (M' : MH) (op : Int), 4 ≤ op ∧ op ≤ 6 → X.ev f' (.t q0) = .p rx 0 → X.ev f' (.t q4) = .p M0.n 0 → X.ev f' (.t q5) = .p xid 0 → X.ev f' (.t q6) = .i .i64 op → Ext M M' → Wp fns K60_0 f' M' (blockQ 1 Q) := by
  intro f' M' op hop e0 e4 e5 e6 x
  have hr' := hr.ext x
  have g := hr'.g
  have n' := x.n
  have l' := x.lo
  have c1 : cget c 1 = some (.i .i64 (k' : Int)) := hr.at_ 1 _ rfl
  have hb1 : hasB c 1 1 = true := has_at hr.at_ (Nat.zero_le _) (by show 1 + 1 ≤ 0 + 4; omega)
  have hon := hr'.on (k' + 1)
  have hcast : ((k' + 1 : Nat) : Int) = (k' : Int) + 1 := by omega
  rw [hcast] at hon
  have g5' := (x.old _ y2).trans g5
  have hcs : Chg (fun j => j = rx) M (M'.set rx (some (.cs false 4 (setN [MV.i .i64 ((k' : Int) + 1)] 1 c)))) := (Chg.of x).set _ (.inl rfl)
  have h6 := e6
  simp only [q0, q4, q5, q6] at e0 e4 e5 h6
  unfold K60_0
  simp (maxSteps := 4000000) (disch := first | omega | assumption | (simp only [bxS, bxV, stOk, Nat.reduceBEq, Nat.reduceEqDiff, Nat.reduceAdd]; done) | (simp only [bxU]; omega) | ((try apply has_setN); apply has_ofL; simp only [bxL]; omega)) only [↓bxD, bxP, bxQ, bxQ2, Nat.reduceBEq, reduceCtorEq, Nat.reduceAdd, Nat.reduceSub, Nat.reduceMul, Nat.reduceLeDiff, Nat.reduceLT, bxR, e0, e4, e5, h6, g, c1, hb1, g5', hN, nck_p, Nat.zero_add, cells_i]
  have ff : fillM [(0, 6, MV.ag es)] z6 = some es := by obtain ⟨_, _, _, _, _, _, rfl, _⟩ := hes; rfl
  unfold z6 at ff
  have ff2 : ∀ id, fillM [(0, 1, MV.i .i64 op), (5, 1, MV.sl id 0 1 0)] [.i .i64 0, .i .u64 0, .i .u64 0, .i .u64 0, .i .u64 0, .nils] = some [.i .i64 op, .i .u64 0, .i .u64 0, .i .u64 0, .i .u64 0, .sl id 0 1 0] := fun _ => rfl
  generalize setN [MV.i .i64 ((k' : Int) + 1)] 1 c = c6 at hon hcs ⊢
  generalize hM5 : M'.set rx (some (.cs false 4 c6)) = M5 at hon hcs ⊢
  have n5 : M5.n = M'.n := by rw [← hM5]; rfl
  have g50 : M5.get xid = some (.cs false 6 t) := by rw [← hM5, set_ne (by omega)]; exact g5'
  have l5 := hcs.lo
  clear hM5
  have hH : hasB t 6 0 = true := has_at hA (Nat.le_refl _) (by rw [hes.len]; omega)
  have hx6 : M5.n ≠ xid := by omega
  have g55 : (M5.push (.cs false 6 (ofL es 0))).get xid = _ := (push_old (by omega)).trans g50
  have hS : ∀ id, stW (M5.push (.cs false 6 (ofL es 0))) 6 xid 0 (.ag [.i .i64 op, .i .u64 0, .i .u64 0, .i .u64 0, .i .u64 0, .sl id 0 1 0]) (some (.cs false 6 t)) = some (.u, (M5.push (.cs false 6 (ofL es 0))).set xid (some (.cs false 6 (setN [.i .i64 op, .i .u64 0, .i .u64 0, .i .u64 0, .i .u64 0, .sl id 0 1 0] 0 t)))) := fun id => stW_ok (n := 6) (id := xid) (off := 0) (sz := 6) (M := M5.push (.cs false 6 (ofL es 0))) (y := .ag [.i .i64 op, .i .u64 0, .i .u64 0, .i .u64 0, .i .u64 0, .sl id 0 1 0]) (by show M5.lo ≤ xid; omega) rfl hH
  simp (maxSteps := 4000000) (disch := first | omega | assumption | (simp only [bxS, bxV, stOk, Nat.reduceBEq, Nat.reduceEqDiff, Nat.reduceAdd]; done) | (simp only [bxU]; omega) | ((try apply has_setN); apply has_ofL; simp only [bxL]; omega)) only [↓bxD, bxP, bxQ, bxQ2, Nat.reduceBEq, reduceCtorEq, Nat.reduceAdd, Nat.reduceSub, Nat.reduceMul, Nat.reduceLeDiff, Nat.reduceLT, bxR, e0, e4, e5, h6, ff, ff2, bslW_some, g50, g55, hS]
  generalize hM6 : MH.set _ _ _ = M6
  have n6 : M6.n = M5.n + 1 := by rw [← hM6]; rfl
  have g6 : M6.get xid = some (.cs false 6 (setN [.i .i64 op, .i .u64 0, .i .u64 0, .i .u64 0, .i .u64 0, .sl M5.n 0 1 0] 0 t)) := by rw [← hM6]; exact set_same _ _
  have g7 : M6.get M5.n = some (.cs false 6 (ofL es 0)) := by rw [← hM6, set_ne hx6]; exact push_new _
  have o6 : ∀ j, j < M5.n → j ≠ xid → M6.get j = M5.get j := fun j hj hj2 => by rw [← hM6, set_ne hj2]; exact push_old hj
  have l6 : M6.lo = M5.lo := by rw [← hM6]; rfl
  clear hM6
  obtain ⟨w1, w2, y, w3, w4, w5⟩ := h.ok rfl
  have hlt := hr.lt
  refine hQ _ M6 _ ⟨⟨c6, bad, ⟨(o6 rx (by omega) (by omega)).trans hon.g, hon.at_, by omega⟩⟩, ⟨by omega, by omega, fun j hj hj2 => ?_⟩, hrx, hlo, hsz, ?_, ⟨y1, by omega⟩, ⟨_, g6, at_setN _ _ _⟩, ⟨op, 0, 0, 0, 0, .sl M5.n 0 1 0, rfl, rfl⟩, h.hd, by have := h.hd; omega, fun _ => ⟨by omega, by omega, .mk op 0 0 0 0 [y], ?_, ?_, ?_⟩, by simp only [bA, reduceCtorEq, e0, e4, e5, h6, ff, ff2, bslW_some, g50, g55, hS], by simp only [bA, reduceCtorEq, e0, e4, e5, h6, ff, ff2, bslW_some, g50, g55, hS], by simp only [bA, reduceCtorEq, e0, e4, e5, h6, ff, ff2, bslW_some, g50, g55, hS]⟩
  ·rw [o6 j (by omega) (by omega), hcs.old j (by omega) hj2]; exact h.ch.old j hj hj2
  ·rw [o6 M0.n (by omega) (by omega), hcs.old M0.n (by omega) (by omega)]; exact h.g4
  ·refine ⟨.sl M5.n 0 1 0, rfl, rfl, rfl, ?_⟩
   have hin : XIn (fun j => M0.n < j ∧ j ≠ xid) M6 es y := XIn.more (by omega) (fun j hj hj2 => ⟨hj, by rw [o6 j (by omega) hj.2, hcs.old j hj2 (by omega)]⟩) w3
   exact XsIn.blks (es := [es]) (xs := [y]) g7 ⟨by omega, hx6⟩ (by omega) ⟨hin, trivial⟩ (by
    show At (ofL es 0) 0 [es].flatten
    rw [List.flatten_cons, List.flatten_nil, List.append_nil]
    exact at_ofL es)
  ·rw [Wk, WkL, WkL]
   exact ⟨fun _ => by simp, w4, trivial⟩
  ·rw [wei, weiL, weiL]
   omega
 simp only [q0, q4, q5] at h0 h4 h5
 unfold K60_2
 simp (disch := first | omega | assumption) only [↓bxD, bA, reduceCtorEq, h0, h4, h5]
 refine bindP_call (is_any (q := 43) (by omega) hr) ?_
 rintro m M2 ⟨⟨r, rfl, hr2⟩, x2⟩
 have n2 := x2.n
 have l2 := x2.lo
 cases r with
 | true =>
  simp (disch := first | omega | assumption) only [↓bxD, bA, reduceCtorEq, h0, h4, h5]
  show Wp fns K60_1 _ _ _
  unfold K60_1
  simp (disch := first | omega | assumption) only [↓bxD, bA, reduceCtorEq, h0, h4, h5]
  refine bindP_call (is_any (q := 63) (by omega) (hr.ext x2)) ?_
  rintro m M3 ⟨⟨r3, rfl, hr3⟩, x3⟩
  cases r3 with
  | true =>
   simp (disch := first | omega | assumption) only [↓bxD, bA, reduceCtorEq, h0, h4, h5]
   show Wp fns K60_0 _ _ _
   exact fin _ M3 6 (by omega) (by simp only [bA, reduceCtorEq, h0, h4, h5]) (by simp only [bA, reduceCtorEq, h0, h4, h5]) (by simp only [bA, reduceCtorEq, h0, h4, h5]) (by simp only [bA, reduceCtorEq, h0, h4, h5] <;> rfl) (x2.trans x3)
  | false =>
   simp (disch := first | omega | assumption) only [↓bxD, bA, reduceCtorEq, h0, h4, h5]
   show Wp fns K60_0 _ _ _
   exact fin _ M3 5 (by omega) (by simp only [bA, reduceCtorEq, h0, h4, h5]) (by simp only [bA, reduceCtorEq, h0, h4, h5]) (by simp only [bA, reduceCtorEq, h0, h4, h5]) (by simp only [bA, reduceCtorEq, h0, h4, h5] <;> rfl) (x2.trans x3)
 | false =>
  simp (disch := first | omega | assumption) only [↓bxD, bA, reduceCtorEq, h0, h4, h5]
  show Wp fns K60_1 _ _ _
  unfold K60_1
  simp (disch := first | omega | assumption) only [↓bxD, bA, reduceCtorEq, h0, h4, h5]
  refine bindP_call (is_any (q := 63) (by omega) (hr.ext x2)) ?_
  rintro m M3 ⟨⟨r3, rfl, hr3⟩, x3⟩
  cases r3 with
  | true =>
   simp (disch := first | omega | assumption) only [↓bxD, bA, reduceCtorEq, h0, h4, h5]
   show Wp fns K60_0 _ _ _
   exact fin _ M3 6 (by omega) (by simp only [bA, reduceCtorEq, h0, h4, h5]) (by simp only [bA, reduceCtorEq, h0, h4, h5]) (by simp only [bA, reduceCtorEq, h0, h4, h5]) (by simp only [bA, reduceCtorEq, h0, h4, h5] <;> rfl) (x2.trans x3)
  | false =>
   simp (disch := first | omega | assumption) only [↓bxD, bA, reduceCtorEq, h0, h4, h5]
   show Wp fns K60_0 _ _ _
   exact fin _ M3 4 (by omega) (by simp only [bA, reduceCtorEq, h0, h4, h5]) (by simp only [bA, reduceCtorEq, h0, h4, h5]) (by simp only [bA, reduceCtorEq, h0, h4, h5]) (by simp only [bA, reduceCtorEq, h0, h4, h5] <;> rfl) (x2.trans x3)
theorem rrep_any {d : Nat} (hd : d ≤ 20) (ih : d < 20 → AltIH (d + 1)) {M : MH} {rx : Nat} {s : ByteArray} {k : Nat} {c : Ev.T MV} {bad : Int} (hs : s.size ≤ 1000) (hlo : M.lo ≤ rx) (hk : k < s.size) (hr : RdAt M rx s k 0 c bad) : Cp fns 60 [.p rx 0, .i .i64 (d : Int)] M (PPost s rx d 1 k M) := by
 have hlt := hr.lt
 refine Cp_call (fn := F60) (by kernel_rfl) (Nat.le_of_ble_eq_true rfl) ?_
 show Wp fns B60 (T.set q1 (some (.i .i64 (d : Int))) (T.set q0 (some (.p rx 0)) T.lf)) M _
 unfold B60
 simp (disch := first | omega | assumption | (simp only [bZ, stOk, Nat.reduceBEq, Nat.reduceEqDiff, Nat.reduceAdd] <;> omega) | ((try apply has_setN); apply has_ofL; simp only [bxL]; omega)) only [↓bxD, bA, Nat.reduceBEq, reduceCtorEq, Nat.reduceAdd, Nat.reduceSub, Nat.reduceMul, Nat.reduceLeDiff, Nat.reduceLT]
 generalize hM1 : M.push _ = M1
 have g4 : M1.get M.n = some (.cs false 6 (ofL z6 0)) := by rw [← hM1]; exact push_new _
 have x1 : Ext M M1 := by rw [← hM1]; exact .push M _
 have n1 : M1.n = M.n + 1 := by rw [← hM1]; rfl
 have l1 := x1.lo
 clear hM1
 refine bindP_call (atom_any hd ih hs (by omega) hk (hr.ext x1)) ?_
 rintro m M2 ⟨e, k2, es, rfl, hes, ⟨c2, bad2, hr2⟩, hc2, hk2, hx2⟩
 have n2 := hc2.n
 have l2 := hc2.lo
 have hes1 := hes.stok
 have hcl : MV.cells (.ag es) = es := by obtain ⟨_, _, _, _, _, _, rfl, _⟩ := hes; rfl
 simp (disch := first | omega | assumption | (simp only [bZ, stOk, Nat.reduceBEq, Nat.reduceEqDiff, Nat.reduceAdd] <;> omega) | ((try apply has_setN); apply has_ofL; simp only [bxL]; omega)) only [↓bxD, bA, Nat.reduceBEq, reduceCtorEq, Nat.reduceAdd, Nat.reduceSub, Nat.reduceMul, Nat.reduceLeDiff, Nat.reduceLT, hes1, hcl]
 generalize hM3 : (M2.push _).set M2.n _ = M3
 have x3 : Ext M2 M3 := by rw [← hM3]; exact (Ext.push M2 _).set _ (Nat.le_refl _)
 have n3 : M3.n = M2.n + 1 := by rw [← hM3]; rfl
 have l3 := x3.lo
 have g5 : M3.get M2.n = some (.cs false 6 (setN es 0 (ofL z6 0))) := by rw [← hM3, set_same]; rfl
 clear hM3
 have st : ∀ f', X.ev f' (.t q0) = .p rx 0 → X.ev f' (.t q4) = .p M.n 0 → X.ev f' (.t q5) = .p M2.n 0 → RpSt M M3 rx d k M2.n s k2 e es f' := fun f' e0 e4 e5 => by
  refine ⟨⟨c2, bad2, hr2.ext x3⟩, ((Chg.of x1).trans hc2).trans (.of x3), hlt, hlo, hs, (x3.old _ (by omega)).trans ((hc2.old _ (by omega) (by omega)).trans g4), ⟨by omega, by omega⟩, ⟨_, g5, at_setN _ _ _⟩, hes, hd, hk2, fun q => ?_, e0, e4, e5⟩
  obtain ⟨w1, w2, y, w3, w4, w5⟩ := hx2 q
  exact ⟨w1, w2, y, XIn.more (by omega) (fun j hj hj2 => ⟨⟨by omega, by omega⟩, x3.old j hj2⟩) w3, w4, by omega⟩
 refine Wp_inv (σ := Nat × Int × List MV) (fun p f' M' => RpSt M M' rx d k M2.n s p.1 p.2.1 p.2.2 f') (fun p => s.size + 24 - p.1) ?_ (k2, e, es) (st _ (by simp only [bxP, bxQ, bxQ2, reduceCtorEq, hes1, hcl]) (by simp only [bxP, bxQ, bxQ2, reduceCtorEq, hes1, hcl]) (by simp only [bxP, bxQ, bxQ2, reduceCtorEq, hes1, hcl]))
 rintro ⟨k', e1, es1⟩ f1 M4 h
 simp only at h
 obtain ⟨c4, bad4, hr4⟩ := h.rd
 have h0 := h.f0
 have g := hr4.g
 have c2' : cget c4 2 = some (.i .i64 e1) := hr4.at_ 2 _ rfl
 have hn := h.ch.n
 have hl := h.ch.lo
 simp only [q0] at h0
 have body : ∀ (f' : Fr) (M' : MH), RpSt M M' rx d k M2.n s k' 0 es1 f' → k' < s.size → Wp fns K60_2 f' M' fun ex f' M' => match ex with
   | .norm => ∃ s' : Nat × Int × List MV, s.size + 24 - s'.1 < s.size + 24 - k' ∧ RpSt M M' rx d k M2.n s s'.1 s'.2.1 s'.2.2 f'
   | ex => blockQ 0 (thenQ fns K60_4 (retQ F60 (PPost s rx d 1 k M))) ex f' M' := fun f' M' h' hlt => by
  refine rep_body h' hlt _ fun f2 M5 es2 h2 => ⟨(k' + 1, 0, es2), by simp only; omega, h2⟩
 unfold L60_3
 by_cases he : e1 = 0
 ·subst he
  simp (disch := first | omega | assumption | (simp only [bZ, stOk, Nat.reduceBEq, Nat.reduceEqDiff, Nat.reduceAdd] <;> omega) | ((try apply has_setN); apply has_ofL; simp only [bxL]; omega)) only [↓bxD, bA, Nat.reduceBEq, reduceCtorEq, Nat.reduceAdd, Nat.reduceSub, Nat.reduceMul, Nat.reduceLeDiff, Nat.reduceLT, h0, g, c2', nck_p, Nat.zero_add]
  refine bindP_call (is_any (q := 42) (by omega) hr4) ?_
  rintro m M5 ⟨⟨r, rfl, hr5⟩, x5⟩
  have n5 := x5.n
  have l5 := x5.lo
  have hr45 := hr4.ext x5
  cases r with
  | true =>
   simp (disch := first | omega | assumption | (simp only [bZ, stOk, Nat.reduceBEq, Nat.reduceEqDiff, Nat.reduceAdd] <;> omega) | ((try apply has_setN); apply has_ofL; simp only [bxL]; omega)) only [↓bxD, bA, Nat.reduceBEq, reduceCtorEq, Nat.reduceAdd, Nat.reduceSub, Nat.reduceMul, Nat.reduceLeDiff, Nat.reduceLT, h0]
   show Wp fns K60_2 _ _ _
   exact body _ _ (h.ext x5 (by simp only [bxP, bxQ, bxQ2, reduceCtorEq, h0]) (by simp only [bxP, bxQ, bxQ2, reduceCtorEq, h0]) (by simp only [bxP, bxQ, bxQ2, reduceCtorEq, h0])) (hr5 rfl)
  | false =>
   simp (disch := first | omega | assumption | (simp only [bZ, stOk, Nat.reduceBEq, Nat.reduceEqDiff, Nat.reduceAdd] <;> omega) | ((try apply has_setN); apply has_ofL; simp only [bxL]; omega)) only [↓bxD, bA, Nat.reduceBEq, reduceCtorEq, Nat.reduceAdd, Nat.reduceSub, Nat.reduceMul, Nat.reduceLeDiff, Nat.reduceLT, h0]
   refine bindP_call (is_any (q := 43) (by omega) hr45) ?_
   rintro m M6 ⟨⟨r, rfl, hr6⟩, x6⟩
   have n6 := x6.n
   have l6 := x6.lo
   have hr46 := hr45.ext x6
   cases r with
   | true =>
    simp (disch := first | omega | assumption | (simp only [bZ, stOk, Nat.reduceBEq, Nat.reduceEqDiff, Nat.reduceAdd] <;> omega) | ((try apply has_setN); apply has_ofL; simp only [bxL]; omega)) only [↓bxD, bA, Nat.reduceBEq, reduceCtorEq, Nat.reduceAdd, Nat.reduceSub, Nat.reduceMul, Nat.reduceLeDiff, Nat.reduceLT, h0]
    show Wp fns K60_2 _ _ _
    exact body _ _ (h.ext (x5.trans x6) (by simp only [bxP, bxQ, bxQ2, reduceCtorEq, h0]) (by simp only [bxP, bxQ, bxQ2, reduceCtorEq, h0]) (by simp only [bxP, bxQ, bxQ2, reduceCtorEq, h0])) (hr6 rfl)
   | false =>
    simp (disch := first | omega | assumption | (simp only [bZ, stOk, Nat.reduceBEq, Nat.reduceEqDiff, Nat.reduceAdd] <;> omega) | ((try apply has_setN); apply has_ofL; simp only [bxL]; omega)) only [↓bxD, bA, Nat.reduceBEq, reduceCtorEq, Nat.reduceAdd, Nat.reduceSub, Nat.reduceMul, Nat.reduceLeDiff, Nat.reduceLT, h0]
    refine bindP_call (is_any (q := 63) (by omega) hr46) ?_
    rintro m M7 ⟨⟨r, rfl, hr7⟩, x7⟩
    cases r with
    | true =>
     simp (disch := first | omega | assumption | (simp only [bZ, stOk, Nat.reduceBEq, Nat.reduceEqDiff, Nat.reduceAdd] <;> omega) | ((try apply has_setN); apply has_ofL; simp only [bxL]; omega)) only [↓bxD, bA, Nat.reduceBEq, reduceCtorEq, Nat.reduceAdd, Nat.reduceSub, Nat.reduceMul, Nat.reduceLeDiff, Nat.reduceLT, h0]
     show Wp fns K60_2 _ _ _
     exact body _ _ (h.ext ((x5.trans x6).trans x7) (by simp only [bxP, bxQ, bxQ2, reduceCtorEq, h0]) (by simp only [bxP, bxQ, bxQ2, reduceCtorEq, h0]) (by simp only [bxP, bxQ, bxQ2, reduceCtorEq, h0])) (hr7 rfl)
    | false =>
     simp (disch := first | omega | assumption | (simp only [bZ, stOk, Nat.reduceBEq, Nat.reduceEqDiff, Nat.reduceAdd] <;> omega) | ((try apply has_setN); apply has_ofL; simp only [bxL]; omega)) only [↓bxD, bA, Nat.reduceBEq, reduceCtorEq, Nat.reduceAdd, Nat.reduceSub, Nat.reduceMul, Nat.reduceLeDiff, Nat.reduceLT, h0]
     show Wp fns K60_4 _ _ _
     exact rep_end (h.ext ((x5.trans x6).trans x7) (by simp only [bxP, bxQ, bxQ2, reduceCtorEq, h0]) (by simp only [bxP, bxQ, bxQ2, reduceCtorEq, h0]) (by simp only [bxP, bxQ, bxQ2, reduceCtorEq, h0]))
 ·have ed : decide (e1 = 0) = false := decide_eq_false he
  simp (disch := first | omega | assumption | (simp only [bZ, stOk, Nat.reduceBEq, Nat.reduceEqDiff, Nat.reduceAdd] <;> omega) | ((try apply has_setN); apply has_ofL; simp only [bxL]; omega)) only [↓bxD, bA, Nat.reduceBEq, reduceCtorEq, Nat.reduceAdd, Nat.reduceSub, Nat.reduceMul, Nat.reduceLeDiff, Nat.reduceLT, h0, g, c2', ed, nck_p, Nat.zero_add]
  show Wp fns K60_4 _ _ _
  exact rep_end (h.ext (.refl _) (by simp only [bxP, bxQ, bxQ2, reduceCtorEq, h0, g, c2', ed, nck_p, Nat.zero_add]) (by simp only [bxP, bxQ, bxQ2, reduceCtorEq, h0, g, c2', ed, nck_p, Nat.zero_add]) (by simp only [bxP, bxQ, bxQ2, reduceCtorEq, h0, g, c2', ed, nck_p, Nat.zero_add]))
def NotRow (b : Nat) (r : MV) (j : Nat) : Prop := b < j ∧ ∀ o n d, r ≠ .sl j o n d
structure SqSt (M0 M : MH) (rx d k : Nat) (s : ByteArray) (k' : Nat) (e : Int) (r : MV) (es : List (List MV)) : Prop where
 rd : ∃ c bad, RdAt M rx s k' e c bad
 ch : Chg (fun j => j = rx) M0 M
 rx0 : rx < M0.n
 lo : M0.lo ≤ rx
 sz : s.size ≤ 1000
 hd : d ≤ 20
 g4 : M.get M0.n = some (.cs false 6 (ofL z6 0))
 n : M0.n < M.n
 row : OwnRow (M0.n + 1) M 6 r es
 re : ∀ x ∈ es, ReC x
 hk : k' + d ≤ s.size + 23
 len : es.length ≤ 2000
theorem SqSt.ext {M0 M M' : MH} {rx d k : Nat} {s : ByteArray} {k' : Nat} {e : Int} {r : MV} {es : List (List MV)} (h : SqSt M0 M rx d k s k' e r es) (x : Ext M M') : SqSt M0 M' rx d k s k' e r es := by
 obtain ⟨c, bad, hr⟩ := h.rd
 exact ⟨⟨c, bad, hr.ext x⟩, h.ch.trans (.of x), h.rx0, h.lo, h.sz, h.hd, (x.old _ h.n).trans h.g4, Nat.lt_of_lt_of_le h.n x.n, h.row.ext x, h.re, h.hk, h.len⟩
theorem seq_app {M0 M M2 : MH} {rx d k : Nat} {s : ByteArray} {k' k2 : Nat} {e e2 : Int} {r : MV} {es : List (List MV)} {y : List MV} (h : SqSt M0 M rx d k s k' e r es) (hy : ReC y) (hr2 : ∃ c bad, RdAt M2 rx s k2 e2 c bad) (hc2 : Chg (fun j => j = rx) M M2) (hk2 : k2 + d ≤ s.size + 23) (hl2 : es.length + 1 ≤ 2000) {xs : List Rx} :
  ∃ r' M4, appM (M2.push (.cs false 6 (ofL y 0))) 6 64 r (.sl M2.n 0 1 0) = some (r', M4) ∧ SqSt M0 M4 rx d k s k2 e2 r' (es ++ [y]) ∧
   (XsIn (NotRow M0.n r) M es xs → ∀ x, XIn (fun j => M.n ≤ j) M2 y x → XsIn (NotRow M0.n r') M4 (es ++ [y]) (xs ++ [x])) := by
 have hn := h.n
 have hrx := h.rx0
 have hlo := h.lo
 have hcn := h.ch.n
 have hcl := h.ch.lo
 have n2 := hc2.n
 have l2 := hc2.lo
 have hrow2 : OwnRow (M0.n + 1) M2 6 r es := h.row.keep n2 fun a o n d e => by
  obtain ⟨_, ⟨rfl, _⟩ | ⟨id, c, rfl, h2, h3, h4, h5⟩⟩ := h.row
  ·cases e
  ·injection e with e1
   subst e1
   exact hc2.old _ h4 (by omega)
 have x3 : Ext M2 (M2.push (.cs false 6 (ofL y 0))) := .push _ _
 obtain ⟨r', M4, a1, a2, a3, a4, a5, a6, a7⟩ := app_rowX (bytes := 64) (hrow2.ext x3) (row_one (M := M2) (sz := 6) (e := y) hy.len) (by rw [push_lo]; omega) (by rw [push_n]; omega) (fun x hx => by rw [List.mem_singleton.1 hx]; exact hy.one) (by rw [List.length_singleton]; omega) (by rw [List.length_singleton]; omega)
 rw [push_n] at a3
 rw [push_lo] at a4
 refine ⟨r', M4, a1, ⟨?_, ⟨by omega, by omega, fun j hj hj2 => ?_⟩, hrx, hlo, h.sz, h.hd, ?_, by omega, a2, fun x hx => ?_, hk2, ?_⟩, fun hX x hx => ?_⟩
 ·obtain ⟨c2, bad2, hr2⟩ := hr2
  exact ⟨c2, bad2, ⟨by rw [a6 rx (by omega) (by rw [push_n]; omega)]; exact (x3.old rx (by omega)).trans hr2.g, hr2.at_, by omega⟩⟩
 ·rw [a6 j (by omega) (by rw [push_n]; omega), x3.old j (by omega), hc2.old j (by omega) hj2]
  exact h.ch.old j hj hj2
 ·rw [a6 M0.n (by omega) (by rw [push_n]; omega), x3.old M0.n (by omega), hc2.old M0.n hn (by omega)]
  exact h.g4
 ·rcases List.mem_append.1 hx with hx | hx
  ·exact h.re x hx
  ·rw [List.mem_singleton.1 hx]; exact hy
 ·rw [List.length_append, List.length_singleton]
  exact hl2
 ·obtain ⟨nn, e7⟩ := a7 (by simp)
  rw [push_n] at e7
  have hnew : ∀ j, M0.n < j → j < M2.n → NotRow M0.n r' j := fun j hj hj2 => ⟨hj, fun o n d e => by
   rw [e7] at e
   injection e with e1
   omega⟩
  have hget : ∀ j, j < M2.n → (∀ a b n d, r = .sl a b n d → a ≠ j) → M4.get j = M2.get j := fun j hj hne => (a5 j (by rw [push_n]; omega) hne).trans (x3.old j hj)
  refine XsIn.app (XsIn.more (by omega) (fun j hj hj2 => ⟨hnew j hj.1 (by omega), ?_⟩) hX) (XIn.more (by omega) (fun j hj hj2 => ⟨hnew j (by omega) hj2, ?_⟩) hx)
  ·rw [hget j (by omega) fun a b n d e q => hj.2 b n d (by rw [e, q])]
   exact hc2.old j hj2 (by have := hj.1; omega)
  ·refine hget j hj2 fun a b n d e q => ?_
   obtain ⟨_, ⟨hn', _⟩ | ⟨id, c, hs, h2, h3, h4, h5⟩⟩ := h.row
   ·rw [hn'] at e; cases e
   ·rw [hs] at e
    injection e with e1
    omega
theorem SqSt.rs {M0 M : MH} {rx d k : Nat} {s : ByteArray} {k' : Nat} {e : Int} {r : MV} {es : List (List MV)} (h : SqSt M0 M rx d k s k' e r es) : isSl r = true ∧ slen r = es.length := h.row.row.sl
theorem many_rec {r : MV} (op : Int) (hr : isSl r = true) : ReC [.i .i64 op, .i .u64 0, .i .u64 0, .i .u64 0, .i .u64 0, r] := ⟨op, 0, 0, 0, 0, r, rfl, hr⟩
theorem many_in {M0 M : MH} {rx d k : Nat} {s : ByteArray} {k' : Nat} {e : Int} {r : MV} {es : List (List MV)} {xs : List Rx} (h : SqSt M0 M rx d k s k' e r es) (hX : XsIn (NotRow M0.n r) M es xs) (hw : WkL xs) (op : Int) (hne : es ≠ []) :
  XIn (fun j => M0.n < j) M [.i .i64 op, .i .u64 0, .i .u64 0, .i .u64 0, .i .u64 0, r] (.mk op 0 0 0 0 xs) ∧ Wk (.mk op 0 0 0 0 xs) ∧ wei (.mk op 0 0 0 0 xs) = 2 + weiL xs := by
 have hl := hX.len
 obtain ⟨r1, r2⟩ := h.rs
 refine ⟨⟨r, rfl, r1, by rw [r2, hl], ?_⟩, ?_, by rw [wei]⟩
 ·have hX' : XsIn (fun j => M0.n < j) M es xs := XsIn.more (Nat.le_refl _) (fun j hj _ => ⟨hj.1, rfl⟩) hX
  obtain ⟨_, ⟨hn, he⟩ | ⟨id, c, hs, h2, h3, h4, h5⟩⟩ := h.row
  ·exact (hne he).elim
  ·rw [hs]
   exact XsIn.blks h2 (by omega) h4 hX' h5
 ·rw [Wk]
  refine ⟨fun _ q => hne ?_, hw⟩
  rw [q] at hl
  exact List.length_eq_zero_iff.1 hl
theorem single_get {M0 M : MH} {rx d k : Nat} {s : ByteArray} {k' : Nat} {e : Int} {r : MV} {y : List MV} (h : SqSt M0 M rx d k s k' e r [y]) : ∃ id t, r = .sl id 0 1 0 ∧ M.get id = some (.cs false 6 t) ∧ getN t 6 0 = some y := by
 obtain ⟨_, ⟨hn, he⟩ | ⟨id, c, hs, h2, h3, h4, h5⟩⟩ := h.row
 ·cases he
 ·refine ⟨id, c, hs, h2, ?_⟩
  rw [List.flatten_cons, List.flatten_nil, List.append_nil] at h5
  have := h5.getN
  rwa [(h.re y List.mem_cons_self).len] at this
theorem seq_any {d : Nat} (hd : d ≤ 20) (ih : d < 20 → AltIH (d + 1)) {M : MH} {rx : Nat} {s : ByteArray} {k : Nat} {c : Ev.T MV} {bad : Int} (hs : s.size ≤ 1000) (hlo : M.lo ≤ rx) (hk : k ≤ s.size) (hr : RdAt M rx s k 0 c bad) : Cp fns 38 [.p rx 0, .i .i64 (d : Int)] M (PPost s rx d 0 k M) := by
 have hlt := hr.lt
 refine Cp_call (fn := F38) (by kernel_rfl) (Nat.le_of_ble_eq_true rfl) ?_
 show Wp fns B38 (T.set q1 (some (.i .i64 (d : Int))) (T.set q0 (some (.p rx 0)) T.lf)) M _
 unfold B38
 simp (disch := first | omega | assumption) only [↓bxD, bA, reduceCtorEq]
 generalize hM1 : M.push _ = M1
 have g4 : M1.get M.n = some (.cs false 6 (ofL z6 0)) := by rw [← hM1]; exact push_new _
 have x1 : Ext M M1 := by rw [← hM1]; exact .push M _
 have n1 : M1.n = M.n + 1 := by rw [← hM1]; rfl
 have l1 := x1.lo
 clear hM1
 have st1 : SqSt M M1 rx d k s k 0 .nils [] := ⟨⟨c, bad, hr.ext x1⟩, .of x1, hlt, hlo, hs, hd, g4, by omega, OwnRow.nil _ _ _, fun x hx => (by cases hx), by omega, by simp⟩
 have fin : ∀ (f' : Fr) (M' : MH) (k' : Nat) (e : Int) (r : MV) (es : List (List MV)), SqSt M M' rx d k s k' e r es → X.ev f' (.t q4) = .p M.n 0 → X.ev f' (.t q5) = r → (e = 0 → k ≤ k' ∧ k' ≤ s.size ∧ ∃ xs, XsIn (NotRow M.n r) M' es xs ∧ WkL xs ∧ weiL xs + 2 * es.length ≤ 4 * (k' - k)) → Wp fns K38_3 f' M' (retQ F38 (PPost s rx d 0 k M)) := by
  intro f' M' k' e r es h h4 h5 hok
  have h4' := slot_get h4
  have hcl := h.ch.lo
  have hcn := h.ch.n
  have g := h.g4
  obtain ⟨r1, r2⟩ := h.rs
  simp only [q4, q5] at h4 h4' h5
  unfold K38_3
  match es, h, hok, r2 with
  | [], h, hok, r2 =>
   have hes := none_rec
   have hS : stW M' 6 M.n 0 (.ag z6) _ = _ := re_st (M' := M') (id := M.n) hes (by omega)
   have hg6 : ∀ t, getN (setN z6 0 t) 6 0 = some z6 := fun t => re_get hes t
   have ff : fillM [] z6 = some z6 := rfl
   have d0 : decide (((0 : Nat) : Int) = 0) = true := rfl
   unfold z6 at hS hg6 ff g
   simp (disch := first | omega | assumption) only [↓bxD, bA, reduceCtorEq, h4, h4', h5, r1, r2, d0, g, ff, hS, set_same, res_cN, cNV_p, cNo_cs, get_set, hg6, map_ag]
   refine atom_fin hes h.rd hlt h.ch h.hk fun q => ?_
   obtain ⟨w1, w2, _⟩ := hok q
   refine ⟨by omega, w2, .mk 0 0 0 0 0 [], ⟨.nils, rfl, rfl, rfl, by unfold BlksIn; trivial⟩, ?_, by simp [wei, weiL]⟩
   rw [Wk, WkL]
   exact ⟨fun h => by omega, trivial⟩
  | [y], h, hok, r2 =>
   have hes := h.re y List.mem_cons_self
   obtain ⟨id, t, hr', g6, hN⟩ := single_get h
   have hS := re_st (M' := M') (id := M.n) hes (by omega)
   have hg6 := re_get hes (ofL z6 0)
   have d0 : decide (((1 : Nat) : Int) = 0) = false := rfl
   have d1 : decide (((1 : Nat) : Int) = 1) = true := rfl
   have hix : ixV 6 r (.i .i64 0) = some (.p id (0 + 0 * 6)) := by rw [hr']; exact ix_sl (v := .sl id 0 1 0) (i := 0) rfl (by show 0 < 1; omega)
   simp (disch := first | omega | assumption) only [↓bxD, bA, reduceCtorEq, h4, h4', h5, r1, r2, d0, d1, hix, g6, hN, g, hS, set_same, res_cN, cNV_p, cNo_cs, get_set, hg6, map_ag]
   refine atom_fin hes h.rd hlt h.ch h.hk fun q => ?_
   obtain ⟨w1, w2, xs, w3, w4, w5⟩ := hok q
   match xs, w3, w4, w5 with
   | [x], w3, w4, w5 =>
    rw [WkL] at w4
    simp only [weiL, List.length_singleton] at w5
    exact ⟨by omega, w2, x, XIn.more (Nat.le_refl _) (fun j hj _ => ⟨hj.1, rfl⟩) w3.1, w4.1, by omega⟩
  | y :: y2 :: l, h, hok, r2 =>
   have hes := many_rec 2 r1
   have hS := re_st (M' := M') (id := M.n) hes (by omega)
   have hg6 := re_get hes (ofL z6 0)
   have d0 : decide (((l.length + 1 + 1 : Nat) : Int) = 0) = false := decide_eq_false (by omega)
   have d1 : decide (((l.length + 1 + 1 : Nat) : Int) = 1) = false := decide_eq_false (by omega)
   have hone : MV.one r = true := isSl_one r1
   have ff : fillM [(0, 1, MV.i .i64 2), (5, 1, r)] [.i .i64 0, .i .u64 0, .i .u64 0, .i .u64 0, .i .u64 0, .nils] = some [.i .i64 2, .i .u64 0, .i .u64 0, .i .u64 0, .i .u64 0, r] := by cases r <;> first | rfl | cases r1
   simp (disch := first | omega | assumption) only [↓bxD, bA, reduceCtorEq, h4, h4', h5, r1, r2, d0, d1, ff, g, hS, set_same, res_cN, cNV_p, cNo_cs, get_set, hg6, map_ag]
   show Wp fns K38_2 _ _ _
   unfold K38_2
   simp (disch := first | omega | assumption) only [↓bxD, bA, reduceCtorEq, h4, h4', h5, r1, r2, d0, d1, ff, g, hS, set_same, res_cN, cNV_p, cNo_cs, get_set, hg6, map_ag]
   refine atom_fin hes h.rd hlt h.ch h.hk fun q => ?_
   obtain ⟨w1, w2, xs, w3, w4, w5⟩ := hok q
   obtain ⟨v1, v2, v3⟩ := many_in h w3 w4 2 (by simp)
   simp only [List.length_cons] at w5
   exact ⟨by omega, w2, _, v1, v2, by rw [v3]; omega⟩
 refine Wp_inv (σ := Nat × Int × MV × List (List MV)) (fun p f' M' => SqSt M M' rx d k s p.1 p.2.1 p.2.2.1 p.2.2.2 ∧ X.ev f' (.t q0) = .p rx 0 ∧ X.ev f' (.t q1) = .i .i64 (d : Int) ∧ X.ev f' (.t q4) = .p M.n 0 ∧ X.ev f' (.t q5) = p.2.2.1 ∧ (p.2.1 = 0 → k ≤ p.1 ∧ p.1 ≤ s.size ∧ p.2.2.2.length ≤ p.1 ∧ ∃ xs, XsIn (NotRow M.n p.2.2.1) M' p.2.2.2 xs ∧ WkL xs ∧ weiL xs + 2 * p.2.2.2.length ≤ 4 * (p.1 - k))) (fun p => if p.2.1 = 0 then s.size + 1 - p.1 else 0) ?_ (k, 0, .nils, []) ?_
 ·rintro ⟨k', e, r, es⟩ f1 M4 ⟨h, h0, h1, h4, h5, hok⟩
  simp only at h h5 hok
  obtain ⟨c4, bad4, hr4⟩ := h.rd
  have g := hr4.g
  have c2' : cget c4 2 = some (.i .i64 e) := hr4.at_ 2 _ rfl
  have hn := h.ch.n
  have hl := h.ch.lo
  have hq4 := h4
  have hq5 := h5
  simp only [q0, q1, q4, q5] at h0 h1 h4 h5
  have body : ∀ (f' : Fr) (M' : MH), e = 0 → k' < s.size → Ext M4 M' → X.ev f' (.t q0) = .p rx 0 → X.ev f' (.t q1) = .i .i64 (d : Int) → X.ev f' (.t q4) = .p M.n 0 → X.ev f' (.t q5) = r → Wp fns K38_0 f' M' fun ex f' M' => match ex with
    | .norm => ∃ s' : Nat × Int × MV × List (List MV), (if s'.2.1 = 0 then s.size + 1 - s'.1 else 0) < (if e = 0 then s.size + 1 - k' else 0) ∧ SqSt M M' rx d k s s'.1 s'.2.1 s'.2.2.1 s'.2.2.2 ∧ X.ev f' (.t q0) = .p rx 0 ∧ X.ev f' (.t q1) = .i .i64 (d : Int) ∧ X.ev f' (.t q4) = .p M.n 0 ∧ X.ev f' (.t q5) = s'.2.2.1 ∧ (s'.2.1 = 0 → k ≤ s'.1 ∧ s'.1 ≤ s.size ∧ s'.2.2.2.length ≤ s'.1 ∧ ∃ xs, XsIn (NotRow M.n s'.2.2.1) M' s'.2.2.2 xs ∧ WkL xs ∧ weiL xs + 2 * s'.2.2.2.length ≤ 4 * (s'.1 - k))
    | ex => blockQ 0 (thenQ fns K38_3 (retQ F38 (PPost s rx d 0 k M))) ex f' M' := by
   intro f' M' he hlt' x e0 e1 e4 e5
   subst he
   obtain ⟨w1, w2, w3, xs, w4, w5, w6⟩ := hok rfl
   have hx := h.ext x
   have l' := x.lo
   have n' := x.n
   have w4' : XsIn (NotRow M.n r) M' es xs := XsIn.more x.n (fun j hj hj2 => ⟨hj, x.old j hj2⟩) w4
   simp only [q0, q1, q4, q5] at e0 e1 e4 e5
   unfold K38_0
   simp (disch := first | omega | assumption) only [↓bxD, bA, reduceCtorEq, e0, e1, e4, e5]
   refine bindP_call (rrep_any hd ih hs (by omega) hlt' (hr4.ext x)) ?_
   rintro m M5 ⟨e2, k2, y, rfl, hy, hr5, hc5, hk5, hx5⟩
   have ff : fillM [(0, 6, MV.ag y)] z6 = some y := by obtain ⟨_, _, _, _, _, _, rfl, _⟩ := hy; rfl
   unfold z6 at ff
   obtain ⟨r', M6, a1, a2, a3⟩ := seq_app hx hy hr5 hc5 hk5 (by omega) (xs := xs)
   have n5 := hc5.n
   have l5 := hc5.lo
   have hlo5 : M5.lo ≤ M5.n := by omega
   simp (disch := first | omega | assumption) only [↓bxD, bA, reduceCtorEq, e0, e1, e4, e5, ff, bslW_some]
   refine bindP_of a1 ?_
   simp (disch := first | omega | assumption) only [↓bxD, bA, reduceCtorEq, e0, e1, e4, e5]
   refine ⟨(k2, e2, r', es ++ [y]), ?_, a2, rfl, fun q => ?_⟩
   ·simp only
    split
    ·rename_i q
     obtain ⟨v1, v2, _⟩ := hx5 q
     omega
    ·omega
   ·obtain ⟨v1, v2, x', v3, v4, v5⟩ := hx5 q
    refine ⟨by simp only; omega, v2, by simp only [List.length_append, List.length_singleton]; omega, xs ++ [x'], a3 w4' x' v3, WkL_app w5 (by rw [WkL, WkL]; exact ⟨v4, trivial⟩), ?_⟩
    rw [weiL_app]
    simp only [weiL, List.length_append, List.length_singleton]
    omega
  have done : ∀ (f' : Fr) (M' : MH), Ext M4 M' → X.ev f' (.t q4) = .p M.n 0 → X.ev f' (.t q5) = r → Wp fns K38_3 f' M' (retQ F38 (PPost s rx d 0 k M)) := fun f' M' x e4 e5 => by
   refine fin f' M' k' e r es (h.ext x) e4 e5 fun q => ?_
   obtain ⟨w1, w2, w3, xs, w4, w5, w6⟩ := hok q
   exact ⟨w1, w2, xs, XsIn.more x.n (fun j hj hj2 => ⟨hj, x.old j hj2⟩) w4, w5, w6⟩
  unfold L38_1
  by_cases he : e = 0
  ·have ed : decide (e = 0) = true := decide_eq_true he
   have hM4lo : M4.lo ≤ M4.n := by omega
   simp (disch := first | omega | assumption) only [↓bxD, bA, reduceCtorEq, h0, h1, h4, h5, g, c2', ed, nck_p, Nat.zero_add]
   refine bindP_call (over_any hM4lo hr4) ?_
   rintro m M5 ⟨rfl, x5⟩
   have n5 := x5.n
   have l5 := x5.lo
   have hr45 := hr4.ext x5
   by_cases ho : s.size ≤ k'
   ·have d1 : decide (s.size ≤ k') = true := decide_eq_true ho
    simp (disch := first | omega | assumption) only [↓bxD, bA, reduceCtorEq, h0, h1, h4, h5, d1]
    show Wp fns K38_3 _ _ _
    exact done _ _ x5 (by simp only [bA, reduceCtorEq, h0, h1, h4, h5, d1]) (by simp only [bA, reduceCtorEq, h0, h1, h4, h5, d1])
   ·have d1 : decide (s.size ≤ k') = false := decide_eq_false ho
    simp (disch := first | omega | assumption) only [↓bxD, bA, reduceCtorEq, h0, h1, h4, h5, d1]
    refine bindP_call (is_any (q := 124) (by omega) hr45) ?_
    rintro m M6 ⟨⟨b, rfl, _⟩, x6⟩
    have n6 := x6.n
    have l6 := x6.lo
    have hr46 := hr45.ext x6
    cases b with
    | true =>
     simp (disch := first | omega | assumption) only [↓bxD, bA, reduceCtorEq, h0, h1, h4, h5, d1]
     show Wp fns K38_3 _ _ _
     exact done _ _ (x5.trans x6) (by simp only [bA, reduceCtorEq, h0, h1, h4, h5, d1]) (by simp only [bA, reduceCtorEq, h0, h1, h4, h5, d1])
    | false =>
     simp (disch := first | omega | assumption) only [↓bxD, bA, reduceCtorEq, h0, h1, h4, h5, d1]
     refine bindP_call (is_any (q := 41) (by omega) hr46) ?_
     rintro m M7 ⟨⟨b, rfl, _⟩, x7⟩
     cases b with
     | true =>
      simp (disch := first | omega | assumption) only [↓bxD, bA, reduceCtorEq, h0, h1, h4, h5, d1]
      show Wp fns K38_3 _ _ _
      exact done _ _ ((x5.trans x6).trans x7) (by simp only [bA, reduceCtorEq, h0, h1, h4, h5, d1]) (by simp only [bA, reduceCtorEq, h0, h1, h4, h5, d1])
     | false =>
      simp (disch := first | omega | assumption) only [↓bxD, bA, reduceCtorEq, h0, h1, h4, h5, d1]
      show Wp fns K38_0 _ _ _
      exact body _ _ he (by omega) ((x5.trans x6).trans x7) (by simp only [bA, reduceCtorEq, h0, h1, h4, h5, d1]) (by simp only [bA, reduceCtorEq, h0, h1, h4, h5, d1]) (by simp only [bA, reduceCtorEq, h0, h1, h4, h5, d1]) (by simp only [bA, reduceCtorEq, h0, h1, h4, h5, d1])
  ·have ed : decide (e = 0) = false := decide_eq_false he
   simp (disch := first | omega | assumption) only [↓bxD, bA, reduceCtorEq, h0, h1, h4, h5, g, c2', ed, nck_p, Nat.zero_add]
   show Wp fns K38_3 _ _ _
   exact done _ _ (.refl _) (by simp only [bA, reduceCtorEq, h0, h1, h4, h5, g, c2', ed, nck_p, Nat.zero_add]) (by simp only [bA, reduceCtorEq, h0, h1, h4, h5, g, c2', ed, nck_p, Nat.zero_add])
 ·exact ⟨st1, by simp only [bA, reduceCtorEq], by simp only [bA, reduceCtorEq], by simp only [bA, reduceCtorEq], by simp only [bA, reduceCtorEq], fun _ => ⟨Nat.le_refl _, hk, Nat.zero_le _, [], trivial, by rw [WkL]; trivial, by simp [weiL]⟩⟩
theorem ralt_any {d : Nat} (hd : d ≤ 20) (ih : d < 20 → AltIH (d + 1)) : AltIH d := by
 intro M rx s k c bad hs hlo hk hr
 have hlt := hr.lt
 refine Cp_call (fn := F19) (by kernel_rfl) (Nat.le_of_ble_eq_true rfl) ?_
 show Wp fns B19 (T.set q1 (some (.i .i64 (d : Int))) (T.set q0 (some (.p rx 0)) T.lf)) M _
 unfold B19
 simp (disch := first | omega | assumption) only [↓bxD, bA, reduceCtorEq]
 generalize hM1 : M.push _ = M1
 have g4 : M1.get M.n = some (.cs false 6 (ofL z6 0)) := by rw [← hM1]; exact push_new _
 have x1 : Ext M M1 := by rw [← hM1]; exact .push M _
 have n1 : M1.n = M.n + 1 := by rw [← hM1]; rfl
 have l1 := x1.lo
 clear hM1
 refine bindP_call (seq_any hd ih hs (by omega) hk (hr.ext x1)) ?_
 rintro m M2 ⟨e, k2, y, rfl, hy, hr2, hc2, hk2, hx2⟩
 have n2 := hc2.n
 have l2 := hc2.lo
 have hlo2 : M2.lo ≤ M2.n := by omega
 have ff : fillM [(0, 6, MV.ag y)] z6 = some y := by obtain ⟨_, _, _, _, _, _, rfl, _⟩ := hy; rfl
 unfold z6 at ff
 simp (disch := first | omega | assumption) only [↓bxD, bA, reduceCtorEq, ff, bslW_some]
 generalize hM3 : M2.push _ = M3
 have x3 : Ext M2 M3 := by rw [← hM3]; exact .push M2 _
 have n3 : M3.n = M2.n + 1 := by rw [← hM3]; rfl
 have l3 := x3.lo
 have g3 : M3.get M2.n = some (.cs false 6 (ofL y 0)) := by rw [← hM3]; exact push_new _
 clear hM3
 have st1 : SqSt M M3 rx d k s k2 e (.sl M2.n 0 1 0) [y] := by
  obtain ⟨c2, bad2, hr2⟩ := hr2
  refine ⟨⟨c2, bad2, hr2.ext x3⟩, ((Chg.of x1).trans hc2).trans (.of x3), hlt, hlo, hs, hd, (x3.old _ (by omega)).trans ((hc2.old _ (by omega) (by omega)).trans g4), by omega, ⟨fun x hx => by rw [List.mem_singleton.1 hx]; exact hy.len, .inr ⟨M2.n, _, rfl, g3, by omega, by omega, ?_⟩⟩, fun x hx => by rw [List.mem_singleton.1 hx]; exact hy, hk2, by simp⟩
  rw [List.flatten_cons, List.flatten_nil, List.append_nil]
  exact at_ofL y
 have fin : ∀ (f' : Fr) (M' : MH) (k' : Nat) (e : Int) (r : MV) (es : List (List MV)), SqSt M M' rx d k s k' e r es → es ≠ [] → X.ev f' (.t q4) = .p M.n 0 → X.ev f' (.t q5) = r → (e = 0 → k ≤ k' ∧ k' ≤ s.size ∧ ∃ xs, XsIn (NotRow M.n r) M' es xs ∧ WkL xs ∧ weiL xs + 2 * es.length ≤ 4 * (k' - k) + 4) → Wp fns K19_3 f' M' (retQ F19 (PPost s rx d 0 k M)) := by
  intro f' M' k' e r es h hne h4 h5 hok
  have h4' := slot_get h4
  have hcl := h.ch.lo
  have hcn := h.ch.n
  have g := h.g4
  obtain ⟨r1, r2⟩ := h.rs
  simp only [q4, q5] at h4 h4' h5
  unfold K19_3
  match es, h, hok, r2, hne with
  | [], _, _, _, hne => exact absurd rfl hne
  | [y], h, hok, r2, _ =>
   have hes := h.re y List.mem_cons_self
   obtain ⟨id, t, hr', g6, hN⟩ := single_get h
   have hS := re_st (M' := M') (id := M.n) hes (by omega)
   have hg6 := re_get hes (ofL z6 0)
   have d1 : decide (((1 : Nat) : Int) = 1) = true := rfl
   have hix : ixV 6 r (.i .i64 0) = some (.p id (0 + 0 * 6)) := by rw [hr']; exact ix_sl (v := .sl id 0 1 0) (i := 0) rfl (by show 0 < 1; omega)
   simp (disch := first | omega | assumption) only [↓bxD, bA, reduceCtorEq, h4, h4', h5, r1, r2, d1, hix, g6, hN, g, hS, set_same, res_cN, cNV_p, cNo_cs, get_set, hg6, map_ag]
   refine atom_fin hes h.rd hlt h.ch h.hk fun q => ?_
   obtain ⟨w1, w2, xs, w3, w4, w5⟩ := hok q
   match xs, w3, w4, w5 with
   | [x], w3, w4, w5 =>
    rw [WkL] at w4
    simp only [weiL, List.length_singleton] at w5
    exact ⟨by omega, w2, x, XIn.more (Nat.le_refl _) (fun j hj _ => ⟨hj.1, rfl⟩) w3.1, w4.1, by omega⟩
  | y :: y2 :: l, h, hok, r2, _ =>
   have hes := many_rec 3 r1
   have hS := re_st (M' := M') (id := M.n) hes (by omega)
   have hg6 := re_get hes (ofL z6 0)
   have d1 : decide (((l.length + 1 + 1 : Nat) : Int) = 1) = false := decide_eq_false (by omega)
   have ff : fillM [(0, 1, MV.i .i64 3), (5, 1, r)] [.i .i64 0, .i .u64 0, .i .u64 0, .i .u64 0, .i .u64 0, .nils] = some [.i .i64 3, .i .u64 0, .i .u64 0, .i .u64 0, .i .u64 0, r] := by cases r <;> first | rfl | cases r1
   simp (disch := first | omega | assumption) only [↓bxD, bA, reduceCtorEq, h4, h4', h5, r1, r2, d1, ff, g, hS, set_same, res_cN, cNV_p, cNo_cs, get_set, hg6, map_ag]
   show Wp fns K19_2 _ _ _
   unfold K19_2
   simp (disch := first | omega | assumption) only [↓bxD, bA, reduceCtorEq, h4, h4', h5, r1, r2, d1, ff, g, hS, set_same, res_cN, cNV_p, cNo_cs, get_set, hg6, map_ag]
   refine atom_fin hes h.rd hlt h.ch h.hk fun q => ?_
   obtain ⟨w1, w2, xs, w3, w4, w5⟩ := hok q
   obtain ⟨v1, v2, v3⟩ := many_in h w3 w4 3 (by simp)
   simp only [List.length_cons] at w5
   exact ⟨by omega, w2, _, v1, v2, by rw [v3]; omega⟩
 refine Wp_inv (σ := Nat × Int × MV × List (List MV)) (fun p f' M' => SqSt M M' rx d k s p.1 p.2.1 p.2.2.1 p.2.2.2 ∧ p.2.2.2 ≠ [] ∧ X.ev f' (.t q0) = .p rx 0 ∧ X.ev f' (.t q1) = .i .i64 (d : Int) ∧ X.ev f' (.t q4) = .p M.n 0 ∧ X.ev f' (.t q5) = p.2.2.1 ∧ (p.2.1 = 0 → k ≤ p.1 ∧ p.1 ≤ s.size ∧ p.2.2.2.length ≤ p.1 + 1 ∧ ∃ xs, XsIn (NotRow M.n p.2.2.1) M' p.2.2.2 xs ∧ WkL xs ∧ weiL xs + 2 * p.2.2.2.length ≤ 4 * (p.1 - k) + 4)) (fun p => if p.2.1 = 0 then s.size + 1 - p.1 else 0) ?_ (k2, e, .sl M2.n 0 1 0, [y]) ?_
 ·rintro ⟨k', e, r, es⟩ f1 M4 ⟨h, hne, h0, h1, h4, h5, hok⟩
  simp only at h h5 hok hne
  obtain ⟨c4, bad4, hr4⟩ := h.rd
  have g := hr4.g
  have c2' : cget c4 2 = some (.i .i64 e) := hr4.at_ 2 _ rfl
  have hn := h.ch.n
  have hl := h.ch.lo
  simp only [q0, q1, q4, q5] at h0 h1 h4 h5
  have done : ∀ (f' : Fr) (M' : MH), Ext M4 M' → X.ev f' (.t q4) = .p M.n 0 → X.ev f' (.t q5) = r → Wp fns K19_3 f' M' (retQ F19 (PPost s rx d 0 k M)) := fun f' M' x e4 e5 => by
   refine fin f' M' k' e r es (h.ext x) hne e4 e5 fun q => ?_
   obtain ⟨w1, w2, w3, xs, w4, w5, w6⟩ := hok q
   exact ⟨w1, w2, xs, XsIn.more x.n (fun j hj hj2 => ⟨hj, x.old j hj2⟩) w4, w5, w6⟩
  unfold L19_1
  by_cases he : e = 0
  ·subst he
   have hM4lo : M4.lo ≤ M4.n := by omega
   simp (disch := first | omega | assumption) only [↓bxD, bA, reduceCtorEq, h0, h1, h4, h5, g, c2', nck_p, Nat.zero_add]
   refine bindP_call (is_any (q := 124) hM4lo hr4) ?_
   rintro m M5 ⟨⟨b, rfl, hb⟩, x5⟩
   have n5 := x5.n
   have l5 := x5.lo
   have hr45 := hr4.ext x5
   cases b with
   | false =>
    simp (disch := first | omega | assumption) only [↓bxD, bA, reduceCtorEq, h0, h1, h4, h5, g, c2', nck_p, Nat.zero_add]
    show Wp fns K19_3 _ _ _
    exact done _ _ x5 (by simp only [bA, reduceCtorEq, h0, h1, h4, h5, g, c2', nck_p, Nat.zero_add]) (by simp only [bA, reduceCtorEq, h0, h1, h4, h5, g, c2', nck_p, Nat.zero_add])
   | true =>
    have hkk := hb rfl
    obtain ⟨w1, w2, w3, xs, w4, w5, w6⟩ := hok rfl
    have h5' := h.ext x5
    have g5 := hr45.g
    have c1' : cget c4 1 = some (.i .i64 (k' : Int)) := hr4.at_ 1 _ rfl
    have hb1 : hasB c4 1 1 = true := has_at hr4.at_ (Nat.zero_le _) (by show 1 + 1 ≤ 0 + 4; omega)
    have hon := hr45.on (k' + 1)
    have hcast : ((k' + 1 : Nat) : Int) = (k' : Int) + 1 := by omega
    rw [hcast] at hon
    have hcs : Chg (fun j => j = rx) M5 (M5.set rx (some (.cs false 4 (setN [MV.i .i64 ((k' : Int) + 1)] 1 c4)))) := (Chg.refl _ M5).set _ (.inl rfl)
    simp (disch := first | omega | assumption) only [↓bxD, bA, reduceCtorEq, h0, h1, h4, h5, g, c2', nck_p, Nat.zero_add]
    show Wp fns K19_0 _ _ _
    unfold K19_0
    simp (disch := first | omega | assumption | (simp only [bZ, stOk, Nat.reduceBEq, Nat.reduceEqDiff, Nat.reduceAdd] <;> omega) | ((try apply has_setN); apply has_ofL; simp only [bxL]; omega)) only [↓bxD, bA, Nat.reduceBEq, reduceCtorEq, Nat.reduceAdd, Nat.reduceSub, Nat.reduceMul, Nat.reduceLeDiff, Nat.reduceLT, h0, h1, h4, h5, g, c2', nck_p, Nat.zero_add, g5, c1', hb1, cells_i]
    generalize setN [MV.i .i64 ((k' : Int) + 1)] 1 c4 = c6 at hon hcs ⊢
    generalize hM6 : M5.set rx (some (.cs false 4 c6)) = M6 at hon hcs ⊢
    have n6 := hcs.n
    have l6 := hcs.lo
    clear hM6
    refine bindP_call (seq_any hd ih hs (by omega) (by omega) hon) ?_
    rintro m M7 ⟨e2, k3, y', rfl, hy', hr7, hc7, hk7, hx7⟩
    have n7 := hc7.n
    have l7 := hc7.lo
    have hlo7 : M7.lo ≤ M7.n := by omega
    have ff' : fillM [(0, 6, MV.ag y')] z6 = some y' := by obtain ⟨_, _, _, _, _, _, rfl, _⟩ := hy'; rfl
    unfold z6 at ff'
    have w4' : XsIn (NotRow M.n r) M5 es xs := XsIn.more x5.n (fun j hj hj2 => ⟨hj, x5.old j hj2⟩) w4
    obtain ⟨r', M8, a1, a2, a3⟩ := seq_app h5' hy' hr7 (hcs.trans hc7) hk7 (by omega) (xs := xs)
    simp (disch := first | omega | assumption) only [↓bxD, bA, reduceCtorEq, h0, h1, h4, h5, g, c2', nck_p, Nat.zero_add, ff', bslW_some]
    refine bindP_of a1 ?_
    simp (disch := first | omega | assumption) only [↓bxD, bA, reduceCtorEq, h0, h1, h4, h5, g, c2', nck_p, Nat.zero_add]
    refine ⟨(k3, e2, r', es ++ [y']), ?_, a2, by simp, rfl, fun q => ?_⟩
    ·simp only
     split
     ·rename_i q
      obtain ⟨v1, v2, _⟩ := hx7 q
      omega
     ·omega
    ·obtain ⟨v1, v2, x', v3, v4, v5⟩ := hx7 q
     refine ⟨by simp only; omega, v2, by simp only [List.length_append, List.length_singleton]; omega, xs ++ [x'], a3 w4' x' (XIn.more (Nat.le_refl _) (fun j hj _ => ⟨by omega, rfl⟩) v3), WkL_app w5 (by rw [WkL, WkL]; exact ⟨v4, trivial⟩), ?_⟩
     rw [weiL_app]
     simp only [weiL, List.length_append, List.length_singleton]
     omega
  ·have ed : decide (e = 0) = false := decide_eq_false he
   simp (disch := first | omega | assumption) only [↓bxD, bA, reduceCtorEq, h0, h1, h4, h5, g, c2', ed, nck_p, Nat.zero_add]
   show Wp fns K19_3 _ _ _
   exact done _ _ (.refl _) (by simp only [bA, reduceCtorEq, h0, h1, h4, h5, g, c2', ed, nck_p, Nat.zero_add]) (by simp only [bA, reduceCtorEq, h0, h1, h4, h5, g, c2', ed, nck_p, Nat.zero_add])
 ·refine ⟨st1, by simp, by simp only [bA, reduceCtorEq], by simp only [bA, reduceCtorEq], by simp only [bA, reduceCtorEq], by simp only [bA, reduceCtorEq], fun q => ?_⟩
  obtain ⟨w1, w2, x, w3, w4, w5⟩ := hx2 q
  refine ⟨by simp only; omega, w2, by simp, [x], ⟨XIn.more (by omega) (fun j hj hj2 => ⟨⟨by omega, fun o n d e => ?_⟩, x3.old j hj2⟩) w3, trivial⟩, by rw [WkL, WkL]; exact ⟨w4, trivial⟩, by simp only [weiL, List.length_singleton]; omega⟩
  injection e with e1
  omega
theorem apart_st {i j sz id id' off off' : Nat} {x y z : X} {l : List (IOper × DK)} {n : Nat} {f : Fr} {hs : List MH} {d d' : Option Ky} {gd gd' : Option (Ky × Bool)} {kd : DK} (h1 : l[i]? = some (⟨d, gd, .st sz x y⟩, .md)) (h2 : l[j]? = some (⟨d', gd', .ld1 z⟩, kd)) (hx : X.ev f x = .p id' off') (hz : X.ev f z = .p id off) (hne : id' ≠ id) (hid : id < n) (hn : ∀ M ∈ hs, n ≤ M.n) : apartL [(i, j)] l n f hs = true := by
 unfold apartL
 have e1 : hs.all (fun M => Nat.ble n M.n) = true := List.all_eq_true.2 fun M hM => ble_t' (hn M hM)
 have e2 : apartB n (cidx (l.map (·.2)) i) hs (.st sz x y) (.ld1 z) f = true := by
  unfold apartB
  show (match (match X.ev f z with
   | .p id _ => some id
   | _ => none) with
   | some id => Nat.blt id n && ((match (match X.ev f x with
    | .p id _ => some (some id)
    | _ => none) with
    | some (some q) => !(q == id)
    | some none => true
    | none => false) || (Nat.blt (cidx (l.map (·.2)) i + 1) hs.length && sameO (atS hs (cidx (l.map (·.2)) i + 1) id) (atS hs (cidx (l.map (·.2)) i) id)))
   | none => false) = true
  rw [hz, hx]
  show (Nat.blt id n && (!(id' == id) || _)) = true
  rw [blt_t hid, show (id' == id) = false from by simpa using hne]
  rfl
 simp only [List.isEmpty_cons, Bool.false_or, List.all_cons, List.all_nil, h1, h2, e1, e2, Bool.and_true, Bool.true_and]
 rfl
theorem apart_two {a b : Nat × Nat} {l : List (IOper × DK)} {n : Nat} {f : Fr} {hs : List MH} (h1 : apartL [a] l n f hs = true) (h2 : apartL [b] l n f hs = true) : apartL [a, b] l n f hs = true := by
 unfold apartL at h1 h2 ⊢
 simp only [List.isEmpty_cons, Bool.false_or, List.all_cons, List.all_nil, Bool.and_true, Bool.and_eq_true] at h1 h2 ⊢
 exact ⟨h1.1, h1.2, h2.2⟩
theorem ralt_all : ∀ n d, d + n = 20 → AltIH d
 | 0, d, h => ralt_any (by omega) fun hd => by omega
 | n + 1, d, h => ralt_any (by omega) fun _ => ralt_all n (d + 1) (by omega)
def PsPost (s : ByteArray) (M : MH) (m : MV) (M' : MH) : Prop := Ext M M' ∧ ((∃ es b e, m = .tp [.ag es, .i .i64 b, .i .i64 e] ∧ ReC es ∧ e ≠ 0) ∨ (∃ es b x, m = .tp [.ag es, .i .i64 b, .i .i64 0] ∧ ReC es ∧ XIn (fun _ => True) M' es x ∧ Wk x ∧ wei x ≤ 4 * s.size + 2))
theorem parse_any {M : MH} {s : ByteArray} (hlo : M.lo ≤ M.n) (hw : (s.size : Int) ≤ 9223372036854775807) : Cp fns 8 [.s s] M (PsPost s M) := by
 refine Cp_call (fn := F8) (by kernel_rfl) (Nat.le_of_ble_eq_true rfl) ?_
 show Wp fns B8 (T.set q0 (some (.s s)) T.lf) M _
 unfold B8
 by_cases h200 : (200 : Int) < (s.size : Int)
 ·have d0 : decide ((200 : Int) < (s.size : Int)) = true := decide_eq_true h200
  have hes := none_rec
  have hS : ∀ M' : MH, M'.lo ≤ M.n → stW M' 6 M.n 0 (.ag z6) _ = _ := fun M' h => re_st (M' := M') (id := M.n) hes h
  have hg6 : ∀ t, getN (setN z6 0 t) 6 0 = some z6 := fun t => re_get hes t
  have ff : fillM [] z6 = some z6 := rfl
  unfold z6 at hS hg6 ff
  have gp : ∀ o, (M.push o).get M.n = some o := fun o => push_new o
  have hS' : ∀ o, stW (M.push o) 6 M.n 0 (.ag [.i .i64 0, .i .u64 0, .i .u64 0, .i .u64 0, .i .u64 0, .nils]) (some (.cs false 6 (ofL z6 0))) = some (.u, (M.push o).set M.n (some (.cs false 6 (setN [.i .i64 0, .i .u64 0, .i .u64 0, .i .u64 0, .i .u64 0, .nils] 0 (ofL z6 0))))) := fun o => hS (M.push o) hlo
  unfold z6 at hS'
  simp (disch := first | omega | assumption | (simp only [bZ, stOk, Nat.reduceBEq, Nat.reduceEqDiff, Nat.reduceAdd] <;> omega) | ((try apply has_setN); apply has_ofL; simp only [bxL]; omega)) only [↓bxD, bA, Nat.reduceBEq, reduceCtorEq, Nat.reduceAdd, Nat.reduceSub, Nat.reduceMul, Nat.reduceLeDiff, Nat.reduceLT, ev_lenT, lenT_s, d0, ff, gp, hS', set_same, res_cN, cNV_p, cNo_cs, get_set, hg6, map_ag]
  exact ⟨(Ext.push M _).set _ (Nat.le_refl _), .inl ⟨z6, 0, 3, rfl, hes, by simp⟩⟩
 ·have d0 : decide ((200 : Int) < (s.size : Int)) = false := decide_eq_false h200
  simp (disch := first | omega | assumption | (simp only [bZ, stOk, Nat.reduceBEq, Nat.reduceEqDiff, Nat.reduceAdd] <;> omega) | ((try apply has_setN); apply has_ofL; simp only [bxL]; omega)) only [↓bxD, bA, Nat.reduceBEq, reduceCtorEq, Nat.reduceAdd, Nat.reduceSub, Nat.reduceMul, Nat.reduceLeDiff, Nat.reduceLT, ev_lenT, lenT_s, d0]
  show Wp fns K8_2 _ _ _
  generalize hM1 : M.push _ = M1
  have g2 : M1.get M.n = some (.cs false 6 (ofL z6 0)) := by rw [← hM1]; exact push_new _
  have x1 : Ext M M1 := by rw [← hM1]; exact .push M _
  have n1 : M1.n = M.n + 1 := by rw [← hM1]; rfl
  have l1 := x1.lo
  clear hM1
  have ff : fillM [(0, 1, MV.s s)] [.s (ByteArray.mk (Array.mk [])), .i .i64 0, .i .i64 0, .i .i64 0] = some [.s s, .i .i64 0, .i .i64 0, .i .i64 0] := rfl
  unfold K8_2
  simp (disch := first | omega | assumption | (simp only [bZ, stOk, Nat.reduceBEq, Nat.reduceEqDiff, Nat.reduceAdd] <;> omega) | ((try apply has_setN); apply has_ofL; simp only [bxL]; omega)) only [↓bxD, bA, Nat.reduceBEq, reduceCtorEq, Nat.reduceAdd, Nat.reduceSub, Nat.reduceMul, Nat.reduceLeDiff, Nat.reduceLT, ff]
  generalize hM2 : M1.push _ = M2
  have gr : M2.get M1.n = some (.cs false 4 (ofL [.s s, .i .i64 0, .i .i64 0, .i .i64 0] 0)) := by rw [← hM2]; exact push_new _
  have x2 : Ext M1 M2 := by rw [← hM2]; exact .push M1 _
  have n2 : M2.n = M1.n + 1 := by rw [← hM2]; rfl
  have l2 := x2.lo
  clear hM2
  have hrd : RdAt M2 M1.n s 0 0 (ofL [.s s, .i .i64 0, .i .i64 0, .i .i64 0] 0) 0 := ⟨gr, at_ofL _, by omega⟩
  refine bindP_call (ralt_all 20 0 rfl M2 M1.n s 0 _ 0 (by omega) (by omega) (Nat.zero_le _) hrd) ?_
  rintro m M3 ⟨e3, k3, es, rfl, hes, ⟨c3, bad3, h3⟩, hc3, hk3, hx3⟩
  have n3 := hc3.n
  have l3 := hc3.lo
  have hes1 := hes.stok
  have hcl : MV.cells (.ag es) = es := by obtain ⟨_, _, _, _, _, _, rfl, _⟩ := hes; rfl
  simp (disch := first | omega | assumption | (simp only [bZ, stOk, Nat.reduceBEq, Nat.reduceEqDiff, Nat.reduceAdd] <;> omega) | ((try apply has_setN); apply has_ofL; simp only [bxL]; omega)) only [↓bxD, bA, Nat.reduceBEq, reduceCtorEq, Nat.reduceAdd, Nat.reduceSub, Nat.reduceMul, Nat.reduceLeDiff, Nat.reduceLT, hes1, hcl]
  generalize hM4 : (M3.push _).set M3.n _ = M4
  have x4 : Ext M3 M4 := by rw [← hM4]; exact (Ext.push M3 _).set _ (Nat.le_refl _)
  have n4 : M4.n = M3.n + 1 := by rw [← hM4]; rfl
  have l4 := x4.lo
  have g6 : M4.get M3.n = some (.cs false 6 (setN es 0 (ofL z6 0))) := by rw [← hM4, set_same]; rfl
  clear hM4
  have h34 := h3.ext x4
  have g33 := h3.g
  have e2' : cget c3 2 = some (.i .i64 e3) := h3.at_ 2 _ rfl
  have e1' : cget c3 1 = some (.i .i64 (k3 : Int)) := h3.at_ 1 _ rfl
  have g24 : M4.get M.n = some (.cs false 6 (ofL z6 0)) := (x4.old _ (by omega)).trans ((hc3.old _ (by omega) (by omega)).trans ((x2.old _ (by omega)).trans g2))
  have hch4 : Chg (fun j => j = M1.n) M M4 := ((Chg.of (x1.trans x2)).trans hc3).trans (.of x4)
  have tail : ∀ (f' : Fr) (M5 : MH) (e5 : Int) (c5 : Ev.T MV) (bad5 : Int), X.ev f' (.t q0) = .s s → X.ev f' (.t q2) = .p M.n 0 → X.ev f' (.t q5) = .p M1.n 0 → X.ev f' (.t q6) = .p M3.n 0 → RdAt M5 M1.n s k3 e5 c5 bad5 → Chg (fun j => j = M1.n) M4 M5 → (e5 = 0 → e3 = 0) → Wp fns K8_1 f' M5 (retQ F8 (PsPost s M)) := by
   intro f' M5 e5 c5 bad5 h0 h2 h5 h6 hr5 hc5 he5
   have n5 := hc5.n
   have l5 := hc5.lo
   have g5 := hr5.g
   have f2 : cget c5 2 = some (.i .i64 e5) := hr5.at_ 2 _ rfl
   have f3 : cget c5 3 = some (.i .i64 bad5) := hr5.at_ 3 _ rfl
   have g65 := (hc5.old _ (by omega) (by omega)).trans g6
   have g25 := (hc5.old _ (by omega) (by omega)).trans g24
   have hxx : Ext M M5 := ⟨by omega, by rw [l5]; exact hch4.lo, fun j hj => (hc5.old j (by omega) (by omega)).trans (hch4.old j hj (by omega))⟩
   have h2' := slot_get h2
   simp only [q0, q2, q5, q6] at h0 h2 h2' h5 h6
   unfold K8_1
   by_cases he : e5 = 0
   ·have ed : decide (e5 ≠ 0) = false := decide_eq_false (by simpa using he)
    have hN := re_get hes (ofL z6 0)
    have hS := re_st (M' := M5) (id := M.n) hes (by omega)
    simp (disch := first | omega | assumption | (simp only [bZ, stOk, Nat.reduceBEq, Nat.reduceEqDiff, Nat.reduceAdd] <;> omega) | ((try apply has_setN); apply has_ofL; simp only [bxL]; omega)) only [↓bxD, bA, Nat.reduceBEq, reduceCtorEq, Nat.reduceAdd, Nat.reduceSub, Nat.reduceMul, Nat.reduceLeDiff, Nat.reduceLT, h0, h2, h2', h5, h6, g5, f2, ed, g65, g25, hN, hS, ev_lenT, lenT_s, nck_p, Nat.zero_add, set_same, res_cN, cNV_p, cNo_cs, get_set, map_ag]
    show Wp fns K8_0 _ _ _
    unfold K8_0
    simp (disch := first | omega | assumption | (simp only [bZ, stOk, Nat.reduceBEq, Nat.reduceEqDiff, Nat.reduceAdd] <;> omega) | ((try apply has_setN); apply has_ofL; simp only [bxL]; omega)) only [↓bxD, bA, Nat.reduceBEq, reduceCtorEq, Nat.reduceAdd, Nat.reduceSub, Nat.reduceMul, Nat.reduceLeDiff, Nat.reduceLT, h0, h2, h2', h5, h6, g5, f2, ed, g65, g25, hN, hS, ev_lenT, lenT_s, nck_p, Nat.zero_add, set_same, res_cN, cNV_p, cNo_cs, get_set, map_ag]
    obtain ⟨w1, w2, y, w3, w4, w5⟩ := hx3 (he5 he)
    refine ⟨hxx.set _ (Nat.le_refl _), .inr ⟨es, _, y, rfl, hes, XIn.more (S := fun j => M2.n ≤ j) (S' := fun _ => True) (M := M3) (M' := M5.set M.n (some (.cs false 6 (setN es 0 (ofL z6 0))))) (by show M3.n ≤ M5.n; omega) (fun j hj hj2 => ⟨trivial, ?_⟩) w3, w4, by omega⟩⟩
    rw [set_ne (by omega), hc5.old j (by omega) (by omega), x4.old j hj2]
   ·have ed : decide (e5 ≠ 0) = true := decide_eq_true he
    have hes0 := none_rec
    have hS : stW M5 6 M.n 0 (.ag z6) _ = _ := re_st (M' := M5) (id := M.n) hes0 (by omega)
    have hg6 : ∀ t, getN (setN z6 0 t) 6 0 = some z6 := fun t => re_get hes0 t
    have ff : fillM [] z6 = some z6 := rfl
    unfold z6 at hS hg6 ff g25
    simp (disch := first | omega | assumption | (simp only [bZ, stOk, Nat.reduceBEq, Nat.reduceEqDiff, Nat.reduceAdd] <;> omega) | ((try apply has_setN); apply has_ofL; simp only [bxL]; omega)) only [↓bxD, bA, Nat.reduceBEq, reduceCtorEq, Nat.reduceAdd, Nat.reduceSub, Nat.reduceMul, Nat.reduceLeDiff, Nat.reduceLT, h0, h2, h2', h5, h6, g5, f2, f3, ed, g25, ff, hS, nck_p, Nat.zero_add, set_same, res_cN, cNV_p, cNo_cs, get_set, hg6, map_ag]
    refine Wp_dreg_of (by omega) ?_
    simp (disch := first | omega | assumption | (simp only [bZ, stOk, Nat.reduceBEq, Nat.reduceEqDiff, Nat.reduceAdd] <;> omega) | ((try apply has_setN); apply has_ofL; simp only [bxL]; omega)) only [↓bxD, bA, Nat.reduceBEq, reduceCtorEq, Nat.reduceAdd, Nat.reduceSub, Nat.reduceMul, Nat.reduceLeDiff, Nat.reduceLT, h0, h2, h2', h5, h6, g5, f2, f3, ed, g25, ff, hS, nck_p, Nat.zero_add, set_same, res_cN, cNV_p, cNo_cs, get_set, hg6, map_ag]
    have hle : ∀ M' ∈ [M5.set M.n (some (.cs false 6 (setN [MV.i .i64 0, .i .u64 0, .i .u64 0, .i .u64 0, .i .u64 0, .nils] 0 (ofL [MV.i .i64 0, .i .u64 0, .i .u64 0, .i .u64 0, .i .u64 0, .nils] 0)))), M5], M5.n ≤ M'.n := fun M' hM' => by
     simp only [List.mem_cons, List.not_mem_nil, or_false] at hM'
     rcases hM' with rfl | rfl <;> exact Nat.le_refl _
    refine ⟨apart_two (apart_st (id' := M.n) (id := M1.n) (x := .t q2) (z := .t q40) rfl rfl (by simp only [bxP, bxQ, bxQ2, reduceCtorEq, h0, h2, h2', h5, h6, g5, f2, f3, ed, g25, ff, hS, nck_p, Nat.zero_add, set_same, res_cN, cNV_p, cNo_cs, get_set, hg6, map_ag] <;> rfl) (by simp only [bxP, bxQ, bxQ2, reduceCtorEq, h0, h2, h2', h5, h6, g5, f2, f3, ed, g25, ff, hS, nck_p, Nat.zero_add, set_same, res_cN, cNV_p, cNo_cs, get_set, hg6, map_ag] <;> rfl) (by omega) (by omega) hle) (apart_st (id' := M.n) (id := M1.n) (x := .t q2) (z := .t q44) rfl rfl (by simp only [bxP, bxQ, bxQ2, reduceCtorEq, h0, h2, h2', h5, h6, g5, f2, f3, ed, g25, ff, hS, nck_p, Nat.zero_add, set_same, res_cN, cNV_p, cNo_cs, get_set, hg6, map_ag] <;> rfl) (by simp only [bxP, bxQ, bxQ2, reduceCtorEq, h0, h2, h2', h5, h6, g5, f2, f3, ed, g25, ff, hS, nck_p, Nat.zero_add, set_same, res_cN, cNV_p, cNo_cs, get_set, hg6, map_ag] <;> rfl) (by omega) (by omega) hle), ?_⟩
    show Wp fns IC.ret _ _ _
    simp (disch := first | omega | assumption | (simp only [bZ, stOk, Nat.reduceBEq, Nat.reduceEqDiff, Nat.reduceAdd] <;> omega) | ((try apply has_setN); apply has_ofL; simp only [bxL]; omega)) only [↓bxD, bA, Nat.reduceBEq, reduceCtorEq, Nat.reduceAdd, Nat.reduceSub, Nat.reduceMul, Nat.reduceLeDiff, Nat.reduceLT, h0, h2, h2', h5, h6, g5, f2, f3, ed, g25, ff, hS, nck_p, Nat.zero_add, set_same, res_cN, cNV_p, cNo_cs, get_set, hg6, map_ag]
    exact ⟨hxx.set _ (Nat.le_refl _), .inl ⟨z6, bad5, e5, rfl, hes0, he⟩⟩
  by_cases he3 : e3 = 0
  ·subst he3
   simp (disch := first | omega | assumption | (simp only [bZ, stOk, Nat.reduceBEq, Nat.reduceEqDiff, Nat.reduceAdd] <;> omega) | ((try apply has_setN); apply has_ofL; simp only [bxL]; omega)) only [↓bxD, bA, Nat.reduceBEq, reduceCtorEq, Nat.reduceAdd, Nat.reduceSub, Nat.reduceMul, Nat.reduceLeDiff, Nat.reduceLT, g33, e2', e1', nck_p, Nat.zero_add]
   refine bindP_call (over_any (by omega) h34) ?_
   rintro m M5 ⟨rfl, x5⟩
   have n5 := x5.n
   have l5 := x5.lo
   have h45 := h34.ext x5
   have g45 := h45.g
   by_cases ho : s.size ≤ k3
   ·have d1 : decide (s.size ≤ k3) = true := decide_eq_true ho
    simp (disch := first | omega | assumption | (simp only [bZ, stOk, Nat.reduceBEq, Nat.reduceEqDiff, Nat.reduceAdd] <;> omega) | ((try apply has_setN); apply has_ofL; simp only [bxL]; omega)) only [↓bxD, bA, Nat.reduceBEq, reduceCtorEq, Nat.reduceAdd, Nat.reduceSub, Nat.reduceMul, Nat.reduceLeDiff, Nat.reduceLT, d1]
    show Wp fns K8_1 _ _ _
    exact tail _ M5 0 c3 bad3 (by simp only [bxP, bxQ, bxQ2, reduceCtorEq, d1]) (by simp only [bxP, bxQ, bxQ2, reduceCtorEq, d1]) (by simp only [bxP, bxQ, bxQ2, reduceCtorEq, d1]) (by simp only [bxP, bxQ, bxQ2, reduceCtorEq, d1]) h45 (.of x5) fun _ => rfl
   ·have d1 : decide (s.size ≤ k3) = false := decide_eq_false ho
    simp (disch := first | omega | assumption | (simp only [bZ, stOk, Nat.reduceBEq, Nat.reduceEqDiff, Nat.reduceAdd] <;> omega) | ((try apply has_setN); apply has_ofL; simp only [bxL]; omega)) only [↓bxD, bA, Nat.reduceBEq, reduceCtorEq, Nat.reduceAdd, Nat.reduceSub, Nat.reduceMul, Nat.reduceLeDiff, Nat.reduceLT, d1, g45, e1', nck_p, Nat.zero_add]
    refine bindP_call (fail_any (z := 2) (by omega) h45) ?_
    rintro m M6 ⟨⟨c6, bad6, h6⟩, hc6⟩
    simp (disch := first | omega | assumption | (simp only [bZ, stOk, Nat.reduceBEq, Nat.reduceEqDiff, Nat.reduceAdd] <;> omega) | ((try apply has_setN); apply has_ofL; simp only [bxL]; omega)) only [↓bxD, bA, Nat.reduceBEq, reduceCtorEq, Nat.reduceAdd, Nat.reduceSub, Nat.reduceMul, Nat.reduceLeDiff, Nat.reduceLT, d1, g45, e1', nck_p, Nat.zero_add]
    show Wp fns K8_1 _ _ _
    exact tail _ M6 _ c6 bad6 (by simp only [bxP, bxQ, bxQ2, reduceCtorEq, d1, g45, e1', nck_p, Nat.zero_add]) (by simp only [bxP, bxQ, bxQ2, reduceCtorEq, d1, g45, e1', nck_p, Nat.zero_add]) (by simp only [bxP, bxQ, bxQ2, reduceCtorEq, d1, g45, e1', nck_p, Nat.zero_add]) (by simp only [bxP, bxQ, bxQ2, reduceCtorEq, d1, g45, e1', nck_p, Nat.zero_add]) h6 ((Chg.of x5).trans hc6) fun q => by simp at q
  ·have ed : decide (e3 = 0) = false := decide_eq_false he3
   simp (disch := first | omega | assumption | (simp only [bZ, stOk, Nat.reduceBEq, Nat.reduceEqDiff, Nat.reduceAdd] <;> omega) | ((try apply has_setN); apply has_ofL; simp only [bxL]; omega)) only [↓bxD, bA, Nat.reduceBEq, reduceCtorEq, Nat.reduceAdd, Nat.reduceSub, Nat.reduceMul, Nat.reduceLeDiff, Nat.reduceLT, g33, e2', ed, nck_p, Nat.zero_add]
   show Wp fns K8_1 _ _ _
   exact tail _ M4 e3 c3 bad3 (by simp only [bxP, bxQ, bxQ2, reduceCtorEq, g33, e2', ed, nck_p, Nat.zero_add]) (by simp only [bxP, bxQ, bxQ2, reduceCtorEq, g33, e2', ed, nck_p, Nat.zero_add]) (by simp only [bxP, bxQ, bxQ2, reduceCtorEq, g33, e2', ed, nck_p, Nat.zero_add]) (by simp only [bxP, bxQ, bxQ2, reduceCtorEq, g33, e2', ed, nck_p, Nat.zero_add]) h34 (.refl _ _) fun q => q
theorem PosAt.keep5 {lo : Nat} {M M' : MH} {m : MV} {p : Pm} {b : Bs} (h : PosAt lo M m p b) (hn : M.n ≤ M'.n) (k : ∀ id, id < M.n → (∀ c, M.get id ≠ some (.cs false 5 c)) → M'.get id = M.get id) : PosAt lo M' m p b := by
 have go : ∀ {sz v es}, sz ≠ 5 → OwnRow lo M sz v es → OwnRow lo M' sz v es := fun {sz v es} h5 h => h.keep hn fun a b' n d e => by
  obtain ⟨_, ⟨rfl, _⟩ | ⟨id, c', r1, r2, r3, r4, r5⟩⟩ := h
  ·cases e
  ·rw [r1] at e
   injection e with e1 e2 e3 e4
   subst e1
   exact k id r4 fun c e => by rw [r2] at e; injection e with e; injection e with _ e; exact h5 e
 obtain ⟨vs, vf, vl, vo, rfl, h1, h2, h3, es, h4, h5, h6⟩ := h
 exact ⟨vs, vf, vl, vo, rfl, go (by decide) h1, go (by decide) h2, go (by decide) h3, es, go (by decide) h4, h5, fun i x y hx hy => go (by decide) (h6 i x y hx hy)⟩
theorem PosAt.le {lo lo' : Nat} {M : MH} {m : MV} {p : Pm} {b : Bs} (h : PosAt lo M m p b) (k : lo' ≤ lo) : PosAt lo' M m p b := by
 obtain ⟨vs, vf, vl, vo, rfl, h1, h2, h3, es, h4, h5, h6⟩ := h
 exact ⟨vs, vf, vl, vo, rfl, h1.le k, h2.le k, h3.le k, es, h4.le k, h5, fun i x y hx hy => (h6 i x y hx hy).le k⟩
structure PrAt (lo : Nat) (M : MH) (v : MV) (es : List (List MV)) (ps : List (Pm × Bs)) : Prop where
 row : OwnRow lo M 5 v es
 len : es.length = ps.length
 at_ : ∀ (i : Nat) e q, es[i]? = some e → ps[i]? = some q → PosAt 0 M (.ag e) q.1 q.2
 q : ∀ q ∈ ps, OkQ q
 fl : ∀ q ∈ ps, q.2.fol.length = q.2.sets.length
 sl : ∀ q ∈ ps, q.2.sets.length ≤ 150
theorem PrAt.ext {lo : Nat} {M M' : MH} {v : MV} {es : List (List MV)} {ps : List (Pm × Bs)} (h : PrAt lo M v es ps) (k : Ext M M') : PrAt lo M' v es ps := ⟨h.row.ext k, h.len, fun i e q a b => (h.at_ i e q a b).keep5 k.n fun id hid _ => k.old id hid, h.q, h.fl, h.sl⟩
theorem PrAt.ps {lo : Nat} {M : MH} {v : MV} {es : List (List MV)} {ps : List (Pm × Bs)} (h : PrAt lo M v es ps) : PsAt M v ps := ⟨es, h.row.row, h.len, fun i e q a b => by
 obtain ⟨e', h1, _, h3⟩ := (h.at_ i e q a b).pv
 injection h1 with h1
 rw [h1]
 exact h3⟩
def svs (ss : List ByteArray) : List (List MV) := ss.map fun s => [.s s]
theorem svs_at {ss : List ByteArray} {i : Nat} {s : ByteArray} (h : ss[i]? = some s) : (svs ss)[i]? = some [.s s] := by
 unfold svs
 rw [List.getElem?_map, h]
 rfl
theorem svs_len (ss : List ByteArray) : (svs ss).length = ss.length := by unfold svs; rw [List.length_map]
theorem pats_any {M : MH} {f : Fr} {v0 v1 v2 v3 : MV} {ss : List ByteArray} (hlo : M.lo ≤ M.n) (h0 : X.ev f (.t q0) = v0) (h1 : X.ev f (.t q1) = v1) (h2 : X.ev f (.t q2) = v2) (h3 : X.ev f (.t q3) = v3) (h10 : X.ev f (.t q10) = .nils) (h11 : X.ev f (.t q11) = .i .i64 0)
  (hr : RowAt M 1 v0 (svs ss)) (hss : ∀ s ∈ ss, (s.size : Int) ≤ 9223372036854775807) (hsl : ss.length ≤ 40) {Q : Post}
  (hQr : ∀ f' M', X.ev f' (.t q8) = .b true → Q .ret f' M')
  (hQ : ∀ f' M' v10 es ps, X.ev f' (.t q1) = v1 → X.ev f' (.t q2) = v2 → X.ev f' (.t q3) = v3 → X.ev f' (.t q10) = v10 → Ext M M' → PrAt M.n M' v10 es ps → ps.length = ss.length → Q .norm f' M') : Wp fns (.loop L6_4) f M (blockQ 0 Q) := by
 obtain ⟨s1, s2⟩ := hr.sl
 have s2 : slen v0 = ss.length := s2.trans (svs_len ss)
 have z0 : decide ((0 : Int) ≠ 0) = false := decide_eq_false (by simp)
 simp only [q0, q1, q2, q3, q10, q11] at h0 h1 h2 h3 h10 h11
 refine Wp_inv (σ := Nat × List (List MV) × List (Pm × Bs)) (fun s f M' => s.1 ≤ ss.length ∧ X.ev f (.t q0) = v0 ∧ X.ev f (.t q1) = v1 ∧ X.ev f (.t q2) = v2 ∧ X.ev f (.t q3) = v3 ∧ X.ev f (.t q11) = .i .i64 (s.1 : Int) ∧ Ext M M' ∧ PrAt M.n M' (X.ev f (.t q10)) s.2.1 s.2.2 ∧ s.2.2.length = s.1) (fun s => ss.length - s.1) ?_ (0, [], []) ?_
 ·rintro ⟨i, es, ps⟩ f M1 ⟨hi, e0, e1, e2, e3, e11, x1, hpr, hpl⟩
  have hi : i ≤ ss.length := hi
  have hpl : ps.length = i := hpl
  have hpr : PrAt M.n M1 (X.ev f (.t q10)) es ps := hpr
  have xn := x1.n
  have xl := x1.lo
  simp only [q0, q1, q2, q3, q10, q11] at e0 e1 e2 e3 e11 hpr
  generalize e10 : X.ev f (.t (Ky.k1 Dg.d10)) = u10 at hpr
  unfold L6_4
  by_cases hi' : i < ss.length
  ·have di : decide ((i : Int) < (ss.length : Int)) = true := decide_eq_true (by omega)
   obtain ⟨s, hs⟩ : ∃ s, ss[i]? = some s := ⟨_, List.getElem?_eq_getElem hi'⟩
   have hsz := hss s (List.mem_of_getElem? hs)
   obtain ⟨ro, sz, t, g, hg1, hct0⟩ := (hr.ext x1).read (svs_at hs)
   have hct : cget t (soff v0 + i * 1) = some (.s s) := hct0 0 _ rfl
   have ixs : ixV 1 v0 (.i .i64 (i : Int)) = some (.p (sid v0) (soff v0 + i * 1)) := ix_sl s1 (by rw [s2]; exact hi')
   simp (maxSteps := 4000000) (disch := first | omega | assumption | (simp only [bxS, bxV, stOk, Nat.reduceBEq, Nat.reduceEqDiff, Nat.reduceAdd]; done) | (simp only [bxU]; omega) | ((try apply has_setN); apply has_ofL; simp only [bxL]; omega)) only [↓bxD, bxP, bxQ, bxQ2, Nat.reduceBEq, reduceCtorEq, Nat.reduceAdd, Nat.reduceSub, Nat.reduceMul, Nat.reduceLeDiff, Nat.reduceLT, bxR, e0, e1, e2, e3, e10, e11, s1, s2, ixs, g, hct, nck_p, di]
   show Wp fns K6_3 _ _ _
   unfold K6_3
   simp (maxSteps := 4000000) (disch := first | omega | assumption | (simp only [bxS, bxV, stOk, Nat.reduceBEq, Nat.reduceEqDiff, Nat.reduceAdd]; done) | (simp only [bxU]; omega) | ((try apply has_setN); apply has_ofL; simp only [bxL]; omega)) only [↓bxD, bxP, bxQ, bxQ2, Nat.reduceBEq, reduceCtorEq, Nat.reduceAdd, Nat.reduceSub, Nat.reduceMul, Nat.reduceLeDiff, Nat.reduceLT, bxR, e0, e1, e2, e3, e10, e11, s1, s2, ixs, g, hct, nck_p]
   refine bindP_call (parse_any (by omega) hsz) ?_
   rintro m M2 ⟨x2, ⟨es', b, e, rfl, hes, he⟩ | ⟨es', b, x, rfl, hes, hX, hW, hwei⟩⟩
   ·have l2 := x2.lo
    have n2 := x2.n
    have hlo2 : M2.lo ≤ M2.n := by omega
    have hst := hes.stok
    have hcl : MV.cells (.ag es') = es' := by obtain ⟨_, _, _, _, _, _, rfl, _⟩ := hes; rfl
    have ed : decide (e ≠ 0) = true := decide_eq_true he
    simp (maxSteps := 4000000) (disch := first | omega | assumption | (simp only [bxS, bxV, stOk, Nat.reduceBEq, Nat.reduceEqDiff, Nat.reduceAdd]; done) | (simp only [bxU]; omega) | ((try apply has_setN); apply has_ofL; simp only [bxL]; omega)) only [↓bxD, bxP, bxQ, bxQ2, Nat.reduceBEq, reduceCtorEq, Nat.reduceAdd, Nat.reduceSub, Nat.reduceMul, Nat.reduceLeDiff, Nat.reduceLT, bxR, e0, e1, e2, e3, e10, e11, s1, s2, hst, hcl, ed, nck_p]
    exact hQr _ _ (by simp only [bxP, bxQ, bxQ2, reduceCtorEq, e0, e1, e2, e3, e10, e11, s1, s2, hst, hcl, ed, nck_p])
   ·have l2 := x2.lo
    have n2 := x2.n
    have hlo2 : M2.lo ≤ M2.n := by omega
    have hst := hes.stok
    have hcl : MV.cells (.ag es') = es' := by obtain ⟨_, _, _, _, _, _, rfl, _⟩ := hes; rfl
    obtain ⟨ro2, sz2, t2, g2, hg2, hct2'⟩ := (hr.ext (x1.trans x2)).read (svs_at hs)
    have hct2 : cget t2 (soff v0 + i * 1) = some (.s s) := hct2' 0 _ rfl
    by_cases h40 : (40 : Int) < (s.size : Int)
    ·have d40 : decide ((40 : Int) < (s.size : Int)) = true := decide_eq_true h40
     simp (maxSteps := 4000000) (disch := first | omega | assumption | (simp only [bxS, bxV, stOk, Nat.reduceBEq, Nat.reduceEqDiff, Nat.reduceAdd]; done) | (simp only [bxU]; omega) | ((try apply has_setN); apply has_ofL; simp only [bxL]; omega)) only [↓bxD, bxP, bxQ, bxQ2, Nat.reduceBEq, reduceCtorEq, Nat.reduceAdd, Nat.reduceSub, Nat.reduceMul, Nat.reduceLeDiff, Nat.reduceLT, bxR, e0, e1, e2, e3, e10, e11, s1, s2, hst, hcl, z0, d40, ev_lenT, lenT_s, ixs, nck_p, g2, hct2]
     exact hQr _ _ (by simp only [bxP, bxQ, bxQ2, reduceCtorEq, e0, e1, e2, e3, e10, e11, s1, s2, hst, hcl, z0, d40, ev_lenT, lenT_s, ixs, nck_p])
    ·have d40 : decide ((40 : Int) < (s.size : Int)) = false := decide_eq_false h40
     simp (disch := first | omega | assumption | (simp only [bZ, stOk, Nat.reduceBEq, Nat.reduceEqDiff, Nat.reduceAdd] <;> omega) | ((try apply has_setN); apply has_ofL; simp only [bxL]; omega)) only [↓bxD, bA, Nat.reduceBEq, reduceCtorEq, Nat.reduceAdd, Nat.reduceSub, Nat.reduceMul, Nat.reduceLeDiff, Nat.reduceLT, e0, e1, e2, e3, e10, e11, s1, s2, hst, hcl, z0, d40, ev_lenT, lenT_s, ixs, nck_p, g2, hct2]
     generalize hM3 : (M2.push _).set M2.n _ = M3
     have x3 : Ext M2 M3 := by rw [← hM3]; exact (Ext.push M2 _).set _ (Nat.le_refl _)
     have n3 : M3.n = M2.n + 1 := by rw [← hM3]; rfl
     have l3 := x3.lo
     have g6 : M3.get M2.n = some (.cs false 6 (setN es' 0 (ofL z6 0))) := by rw [← hM3, set_same]; rfl
     clear hM3
     have hN6 := re_get hes (ofL z6 0)
     show Wp fns K6_1 _ _ _
     unfold K6_1
     simp (disch := first | omega | assumption | (simp only [bZ, stOk, Nat.reduceBEq, Nat.reduceEqDiff, Nat.reduceAdd] <;> omega) | ((try apply has_setN); apply has_ofL; simp only [bxL]; omega)) only [↓bxD, bA, Nat.reduceBEq, reduceCtorEq, Nat.reduceAdd, Nat.reduceSub, Nat.reduceMul, Nat.reduceLeDiff, Nat.reduceLT, e0, e1, e2, e3, e10, e11, s1, s2, hst, hcl, z0, d40, ev_lenT, lenT_s, ixs, nck_p, g6, hN6, map_ag]
     have hXA := (hX.xat).ext x3
     refine bindP_call (Posits_any (by omega) hXA (by omega)) ?_
     rintro m M4 ⟨x4, ⟨hc, rfl⟩ | ⟨hc, hd, rfl⟩ | ⟨hc, hd, mm, rfl, hP⟩⟩
     ·have l4 := x4.lo
      have n4 := x4.n
      have z3 : decide ((3 : Int) ≠ 0) = true := by decide
      have hst5 : stOk 5 (.ag z5) = true := rfl
      have hcl5 : MV.cells (.ag z5) = z5 := rfl
      simp (disch := first | omega | assumption | (simp only [bZ, stOk, Nat.reduceBEq, Nat.reduceEqDiff, Nat.reduceAdd] <;> omega) | ((try apply has_setN); apply has_ofL; simp only [bxL]; omega)) only [↓bxD, bA, Nat.reduceBEq, reduceCtorEq, Nat.reduceAdd, Nat.reduceSub, Nat.reduceMul, Nat.reduceLeDiff, Nat.reduceLT, e0, e1, e2, e3, e10, e11, s1, s2, hst, hcl, z0, d40, ev_lenT, lenT_s, ixs, nck_p, z3, hst5, hcl5]
      exact hQr _ _ (by simp only [bxP, bxQ, bxQ2, reduceCtorEq, e0, e1, e2, e3, e10, e11, s1, s2, hst, hcl, z0, d40, ev_lenT, lenT_s, ixs, nck_p])
     ·have l4 := x4.lo
      have n4 := x4.n
      have z4 : decide ((4 : Int) ≠ 0) = true := by decide
      have hst5 : stOk 5 (.ag z5) = true := rfl
      have hcl5 : MV.cells (.ag z5) = z5 := rfl
      simp (disch := first | omega | assumption | (simp only [bZ, stOk, Nat.reduceBEq, Nat.reduceEqDiff, Nat.reduceAdd] <;> omega) | ((try apply has_setN); apply has_ofL; simp only [bxL]; omega)) only [↓bxD, bA, Nat.reduceBEq, reduceCtorEq, Nat.reduceAdd, Nat.reduceSub, Nat.reduceMul, Nat.reduceLeDiff, Nat.reduceLT, e0, e1, e2, e3, e10, e11, s1, s2, hst, hcl, z0, d40, ev_lenT, lenT_s, ixs, nck_p, z4, hst5, hcl5]
      exact hQr _ _ (by simp only [bxP, bxQ, bxQ2, reduceCtorEq, e0, e1, e2, e3, e10, e11, s1, s2, hst, hcl, z0, d40, ev_lenT, lenT_s, ixs, nck_p])
     ·have l4 := x4.lo
      have n4 := x4.n
      obtain ⟨l, rfl, hl5, hPv⟩ := hP.pv
      have hst5 : stOk 5 (.ag l) = true := by
       obtain ⟨vs, vf, vl, vo, fs, rfl, p1, p2, p3, p4, _⟩ := hPv
       obtain ⟨s1, _⟩ := p1.sl
       obtain ⟨s2, _⟩ := p2.sl
       obtain ⟨s3, _⟩ := p3.sl
       obtain ⟨s4, _⟩ := p4.sl
       cases vs <;> first | cases s1 | skip
       all_goals cases vf <;> first | cases s2 | skip
       all_goals cases vl <;> first | cases s3 | skip
       all_goals cases vo <;> first | cases s4 | skip
       all_goals rfl
      have hcl5 : MV.cells (.ag l) = l := by
       match l, hl5 with
       | [a, b, c, d, e], _ => rfl
      simp (disch := first | omega | assumption | (simp only [bZ, stOk, Nat.reduceBEq, Nat.reduceEqDiff, Nat.reduceAdd] <;> omega) | ((try apply has_setN); apply has_ofL; simp only [bxL]; omega)) only [↓bxD, bA, Nat.reduceBEq, reduceCtorEq, Nat.reduceAdd, Nat.reduceSub, Nat.reduceMul, Nat.reduceLeDiff, Nat.reduceLT, e0, e1, e2, e3, e10, e11, s1, s2, hst, hcl, z0, d40, ev_lenT, lenT_s, ixs, nck_p, hst5, hcl5]
      generalize hM5 : (M4.push _).set M4.n _ = M5
      have x5 : Ext M4 M5 := by rw [← hM5]; exact (Ext.push M4 _).set _ (Nat.le_refl _)
      have n5 : M5.n = M4.n + 1 := by rw [← hM5]; rfl
      have l5 := x5.lo
      have g9 : M5.get M4.n = some (.cs false 5 (setN l 0 (ofL [MV.nils, MV.b false, MV.nils, MV.nils, MV.nils] 0))) := by rw [← hM5, set_same]
      clear hM5
      have hN9 : ∀ t, getN (setN l 0 t) 5 0 = some l := fun t => by
       have := getN_setN l 0 t
       rwa [hl5] at this
      have ff : fillM [(0, 5, MV.ag l)] (zrow [.nils, .b false, .nils, .nils, .nils] 1) = some l := by
       match l, hl5 with
       | [a, b, c, d, e], _ => rfl
      show Wp fns K6_0 _ _ _
      unfold K6_0
      simp (disch := first | omega | assumption | (simp only [bZ, stOk, Nat.reduceBEq, Nat.reduceEqDiff, Nat.reduceAdd] <;> omega) | ((try apply has_setN); apply has_ofL; simp only [bxL]; omega)) only [↓bxD, bA, Nat.reduceBEq, reduceCtorEq, Nat.reduceAdd, Nat.reduceSub, Nat.reduceMul, Nat.reduceLeDiff, Nat.reduceLT, e0, e1, e2, e3, e10, e11, s1, s2, hst, hcl, z0, d40, ev_lenT, lenT_s, ixs, nck_p, g9, hN9, map_ag, ff, bslW_some]
      have hpr5 := hpr.ext (x2.trans (x3.trans (x4.trans x5)))
      have hP5 := (hP.keep5 (M' := M5) x5.n fun id hid _ => x5.old id hid).le (Nat.zero_le _)
      have x6 : Ext M5 (M5.push (.cs false 5 (ofL l 0))) := .push M5 _
      have hone : ∀ e ∈ [l], allOne e = true := fun e he => by
       rw [List.mem_singleton.1 he]
       obtain ⟨vs, vf, vl, vo, fs, rfl, p1, p2, p3, p4, _⟩ := hPv
       obtain ⟨s1, _⟩ := p1.sl
       obtain ⟨s2, _⟩ := p2.sl
       obtain ⟨s3, _⟩ := p3.sl
       obtain ⟨s4, _⟩ := p4.sl
       cases vs <;> first | cases s1 | skip
       all_goals cases vf <;> first | cases s2 | skip
       all_goals cases vl <;> first | cases s3 | skip
       all_goals cases vo <;> first | cases s4 | skip
       all_goals rfl
      have hesl : es.length = i := hpr.len.trans hpl
      obtain ⟨v', M7, a1, a2, a3, a4, a5, a6, _⟩ := app_rowX (bytes := 104) (hpr5.row.ext x6) (row_one (M := M5) (e := l) hl5) (by show M5.lo ≤ M.n; omega) (by show M.n ≤ M5.n + 1; omega) hone (by rw [hesl]; simp only [List.length_cons, List.length_nil]; omega) (by rw [hesl]; simp only [List.length_cons, List.length_nil]; omega)
      have n6 : (M5.push (.cs false 5 (ofL l 0))).n = M5.n + 1 := rfl
      have l6 : (M5.push (.cs false 5 (ofL l 0))).lo = M5.lo := rfl
      rw [n6] at a3
      rw [l6] at a4
      have xx : Ext M M7 := ⟨by omega, by omega, fun j hj => (a6 j hj (by omega)).trans ((x6.old j (by omega)).trans ((x1.trans (x2.trans (x3.trans (x4.trans x5)))).old j hj))⟩
      have kp : ∀ id, id < M5.n → (∀ c, M5.get id ≠ some (.cs false 5 c)) → M7.get id = M5.get id := fun id hid hc => by
       refine (a5 id (by omega) fun a b n d e => ?_).trans (x6.old id hid)
       obtain ⟨_, ⟨rfl, _⟩ | ⟨id2, c', r1, r2, r3, r4, r5⟩⟩ := hpr5.row
       ·cases e
       ·rw [r1] at e
        injection e with e1
        subst e1
        intro e
        subst e
        exact hc _ r2
      refine bindP_of a1 ?_
      simp (disch := first | omega | assumption | (simp only [bZ, stOk, Nat.reduceBEq, Nat.reduceEqDiff, Nat.reduceAdd] <;> omega) | ((try apply has_setN); apply has_ofL; simp only [bxL]; omega)) only [↓bxD, bA, Nat.reduceBEq, reduceCtorEq, Nat.reduceAdd, Nat.reduceSub, Nat.reduceMul, Nat.reduceLeDiff, Nat.reduceLT, e0, e1, e2, e3, e10, e11, s1, s2, hst, hcl, z0, d40, ev_lenT, lenT_s, ixs, nck_p]
      show Wp fns K6_2 _ _ _
      unfold K6_2
      simp (disch := first | omega | assumption | (simp only [bZ, stOk, Nat.reduceBEq, Nat.reduceEqDiff, Nat.reduceAdd] <;> omega) | ((try apply has_setN); apply has_ofL; simp only [bxL]; omega)) only [↓bxD, bA, Nat.reduceBEq, reduceCtorEq, Nat.reduceAdd, Nat.reduceSub, Nat.reduceMul, Nat.reduceLeDiff, Nat.reduceLT, e0, e1, e2, e3, e10, e11, s1, s2, hst, hcl, z0, d40, ev_lenT, lenT_s, ixs, nck_p]
      refine ⟨(i + 1, es ++ [l], ps ++ [partM x ⟨[], []⟩]), by show ss.length - (i + 1) < ss.length - i; omega, by show i + 1 ≤ _; omega, rfl, xx, ⟨a2, by simp only [List.length_append, List.length_singleton]; rw [hpr.len], fun k e q hk hq => ?_, ?_, ?_, ?_⟩, by show (ps ++ _).length = i + 1; simp only [List.length_append, List.length_singleton]; omega⟩
      ·rcases mem_app_get hk with ⟨k1, k2⟩ | ⟨k1, rfl⟩
       ·rcases mem_app_get hq with ⟨k3, k4⟩ | ⟨k3, _⟩
        ·exact (hpr5.at_ k e q k2 k4).keep5 (by omega) kp
        ·have := hpr.len; omega
       ·rcases mem_app_get hq with ⟨k3, k4⟩ | ⟨_, rfl⟩
        ·have := hpr.len; omega
        ·exact hP5.keep5 (by omega) kp
      ·intro q hq
       rcases List.mem_append.1 hq with hq | hq
       ·exact hpr.q q hq
       ·rw [List.mem_singleton.1 hq]; exact part_okq x
      ·intro q hq
       rcases List.mem_append.1 hq with hq | hq
       ·exact hpr.fl q hq
       ·rw [List.mem_singleton.1 hq]; exact (part_fin x).fl
      ·intro q hq
       rcases List.mem_append.1 hq with hq | hq
       ·exact hpr.sl q hq
       ·rw [List.mem_singleton.1 hq, part_len]; exact hc
  ·have di : decide ((i : Int) < (ss.length : Int)) = false := decide_eq_false (by omega)
   simp (disch := first | omega | assumption | (simp only [bZ, stOk, Nat.reduceBEq, Nat.reduceEqDiff, Nat.reduceAdd] <;> omega) | ((try apply has_setN); apply has_ofL; simp only [bxL]; omega)) only [↓bxD, bA, Nat.reduceBEq, reduceCtorEq, Nat.reduceAdd, Nat.reduceSub, Nat.reduceMul, Nat.reduceLeDiff, Nat.reduceLT, e0, e1, e2, e3, e10, e11, s1, s2, nck_p, di]
   exact hQ _ _ u10 es ps (by simp only [bxP, bxQ, bxQ2, reduceCtorEq, e0, e1, e2, e3, e10, e11, s1, s2, nck_p]) (by simp only [bxP, bxQ, bxQ2, reduceCtorEq, e0, e1, e2, e3, e10, e11, s1, s2, nck_p]) (by simp only [bxP, bxQ, bxQ2, reduceCtorEq, e0, e1, e2, e3, e10, e11, s1, s2, nck_p]) (by simp only [bxP, bxQ, bxQ2, reduceCtorEq, e0, e1, e2, e3, e10, e11, s1, s2, nck_p]) x1 hpr (by omega)
 ·refine ⟨Nat.zero_le _, h0, h1, h2, h3, h11, .refl _, ?_, rfl⟩
  simp only [q10]
  rw [h10]
  exact ⟨OwnRow.nil _ _ _, rfl, fun i e q a => (by simp at a), fun q hq => (by cases hq), fun q hq => (by cases hq), fun q hq => (by cases hq)⟩
theorem cutM_two {v : MV} {sz l h : Nat} {k : IntKind} (hv : isSl v = true) (hlh : l ≤ h) (hl : h ≤ slen v) : cutM sz v (some (.i k (l : Int))) (some (.i k (h : Int))) = some (cutHi (h - l) (cutLo sz l v)) := by
 cases v <;> first | cases hv | skip
 ·simp [slen] at hl
  subst hl
  have : l = 0 := by omega
  subst this
  rfl
 ·rename_i id off n e
  show (bif Nat.ble l h && Nat.ble h n then some (MV.sl id (off + l * sz) (h - l) (e + l)) else none) = _
  rw [ble_t' hlh, ble_t' (show h ≤ n from hl)]
  rfl
def Low (ps : List (Pm × Bs)) (r : List Nat) (k j : Nat) (rr : Int) (ll : Nat) : Prop := (∃ z q, j ≤ z ∧ ps[z]? = some q ∧ takesD q (r.take (k + 1)) = true ∧ rr = (z : Nat) ∧ ll = k + 1 ∧ ∀ i q, j ≤ i → i < z → ps[i]? = some q → takesD q (r.take (k + 1)) = false) ∨ ((∀ i q, j ≤ i → ps[i]? = some q → takesD q (r.take (k + 1)) = false) ∧ rr = (best ps r k).1 ∧ ll = (best ps r k).2)
theorem Low.start (ps : List (Pm × Bs)) (r : List Nat) (k : Nat) : Low ps r k ps.length (best ps r k).1 (best ps r k).2 := .inr ⟨fun i q h e => by have := (List.getElem?_eq_some_iff.1 e).1; omega, rfl, rfl⟩
theorem Low.hit {ps : List (Pm × Bs)} {r : List Nat} {k j : Nat} {q : Pm × Bs} (hq : ps[j]? = some q) (ht : takesD q (r.take (k + 1)) = true) : Low ps r k j (j : Nat) (k + 1) := .inl ⟨j, q, Nat.le_refl _, hq, ht, rfl, rfl, fun i _ h1 h2 => by omega⟩
theorem Low.miss {ps : List (Pm × Bs)} {r : List Nat} {k j : Nat} {rr : Int} {ll : Nat} {q : Pm × Bs} (h : Low ps r k (j + 1) rr ll) (hq : ps[j]? = some q) (ht : takesD q (r.take (k + 1)) = false) : Low ps r k j rr ll := by
 rcases h with ⟨z, q', h1, h2, h3, h4, h5, h6⟩ | ⟨h1, h2, h3⟩
 ·refine .inl ⟨z, q', by omega, h2, h3, h4, h5, fun i q2 k1 k2 k3 => ?_⟩
  by_cases e : i = j
  ·subst e; rw [hq] at k3; injection k3 with k3; rw [← k3]; exact ht
  ·exact h6 i q2 (by omega) k2 k3
 ·refine .inr ⟨fun i q2 k1 k3 => ?_, h2, h3⟩
  by_cases e : i = j
  ·subst e; rw [hq] at k3; injection k3 with k3; rw [← k3]; exact ht
  ·exact h1 i q2 (by omega) k3
theorem accP_lo (ps : List (Pm × Bs)) (l : List (Nat × Int)) : -1 ≤ accP ps l := by
 unfold accP
 split <;> omega
theorem Low.best {ps : List (Pm × Bs)} {r : List Nat} {k : Nat} {rr : Int} {ll : Nat} (h : Low ps r k 0 rr ll) : rr = (best ps r (k + 1)).1 ∧ ll = (best ps r (k + 1)).2 := by
 have hlo : -1 ≤ ansP ps (r.take (k + 1)) := accP_lo _ _
 rw [K.best]
 by_cases ha : -1 < ansP ps (r.take (k + 1))
 ·rw [if_pos ha]
  obtain ⟨n, hn⟩ : ∃ n : Nat, ansP ps (r.take (k + 1)) = n := ⟨(ansP ps (r.take (k + 1))).toNat, by omega⟩
  obtain ⟨⟨q0, a1, a2⟩, a3⟩ := ans_some hn
  rcases h with ⟨z, q', h1, h2, h3, h4, h5, h6⟩ | ⟨h1, h2, h3⟩
  ·rcases Nat.lt_trichotomy z n with e | e | e
   ·have := a3 z q' e h2
    rw [h3] at this; cases this
   ·rw [hn, ← e]
    exact ⟨h4, h5⟩
   ·have := h6 n q0 (Nat.zero_le _) e a1
    rw [a2] at this; cases this
  ·have := h1 n q0 (Nat.zero_le _) a1
   rw [a2] at this; cases this
 ·rw [if_neg ha]
  rcases h with ⟨z, q', h1, h2, h3, h4, h5, h6⟩ | ⟨h1, h2, h3⟩
  ·have := ans_none (by omega : ansP ps (r.take (k + 1)) < 0) h2
   rw [h3] at this; cases this
  ·exact ⟨h2, h3⟩
theorem long_any {M : MH} {f : Fr} {v1 v2 v10 x17 x20 x21 x22 : MV} {a : Nat} {b : List Nat} {ps : List (Pm × Bs)} (hlo : M.lo ≤ M.n) (h1 : X.ev f (.t q1) = v1) (h2 : X.ev f (.t q2) = v2) (h3 : X.ev f (.t q3) = .i .i64 (a : Int)) (h10 : X.ev f (.t q10) = v10) (h17 : X.ev f (.t q17) = x17) (h20 : X.ev f (.t q20) = x20) (h21 : X.ev f (.t q21) = x21) (h22 : X.ev f (.t q22) = x22) (h23 : X.ev f (.t q23) = .i .i64 (-1)) (h24 : X.ev f (.t q24) = .i .i64 0) (h25 : X.ev f (.t q25) = .i .i64 ((a : Int) + 1))
  (hb : RowAt M 1 v1 (bvs b)) (hby : ∀ c ∈ b, c < 256) (hbl : b.length ≤ 1000000) (ha : a ≤ b.length) (hps : PsAt M v10 ps) (hok : OkPs ps) {Q : Post}
  (hQ : ∀ f' M', X.ev f' (.t q1) = v1 → X.ev f' (.t q2) = v2 → X.ev f' (.t q3) = .i .i64 (a : Int) → X.ev f' (.t q17) = x17 → X.ev f' (.t q20) = x20 → X.ev f' (.t q21) = x21 → X.ev f' (.t q22) = x22 → X.ev f' (.t q23) = .i .i64 (best ps (b.drop a) (b.drop a).length).1 → X.ev f' (.t q24) = .i .i64 ((best ps (b.drop a) (b.drop a).length).2 : Int) → Ext M M' → Q .norm f' M') : Wp fns (.loop L6_11) f M (blockQ 2 Q) := by
 obtain ⟨es, hr0, hes, hpv⟩ := hps
 obtain ⟨s1, s2⟩ := hb.sl
 have s2 : slen v1 = b.length := s2.trans (bvs_len b)
 obtain ⟨r1, r2⟩ := hr0.sl
 have r2 : slen v10 = ps.length := by rw [r2, hes]
 have hpn := hok.n
 generalize hrr : b.drop a = r at hQ
 have hrl : r.length = b.length - a := by rw [← hrr, List.length_drop]
 simp only [q1, q2, q3, q10, q17, q20, q21, q22, q23, q24, q25] at h1 h2 h3 h10 h17 h20 h21 h22 h23 h24 h25
 refine Wp_inv (σ := Nat) (fun k f M' => k ≤ r.length ∧ X.ev f (.t q1) = v1 ∧ X.ev f (.t q2) = v2 ∧ X.ev f (.t q3) = .i .i64 (a : Int) ∧ X.ev f (.t q10) = v10 ∧ X.ev f (.t q17) = x17 ∧ X.ev f (.t q20) = x20 ∧ X.ev f (.t q21) = x21 ∧ X.ev f (.t q22) = x22 ∧ X.ev f (.t q23) = .i .i64 (best ps r k).1 ∧ X.ev f (.t q24) = .i .i64 ((best ps r k).2 : Int) ∧ X.ev f (.t q25) = .i .i64 ((a : Int) + 1 + (k : Int)) ∧ Ext M M') (fun k => r.length - k) ?_ 0 ?_
 ·rintro k f M1 ⟨hk, e1, e2, e3, e10, e17, e20, e21, e22, e23, e24, e25, x1⟩
  have xn := x1.n
  have xl := x1.lo
  simp only [q1, q2, q3, q10, q17, q20, q21, q22, q23, q24, q25] at e1 e2 e3 e10 e17 e20 e21 e22 e23 e24 e25
  unfold L6_11
  by_cases hk' : k < r.length
  ·have dk : decide ((a : Int) + 1 + (k : Int) ≤ (b.length : Int)) = true := decide_eq_true (by omega)
   simp (disch := first | omega | assumption) only [↓bxD, bA, reduceCtorEq, e1, e2, e3, e10, e17, e20, e21, e22, e23, e24, e25, s1, s2, r1, r2, nck_p, dk]
   show Wp fns K6_10 _ _ _
   unfold K6_10
   simp (disch := first | omega | assumption) only [↓bxD, bA, reduceCtorEq, e1, e2, e3, e10, e17, e20, e21, e22, e23, e24, e25, s1, s2, r1, r2, nck_p]
   refine Wp_inv (σ := Nat × Int × Nat) (fun s f M' => s.1 ≤ ps.length ∧ X.ev f (.t q1) = v1 ∧ X.ev f (.t q2) = v2 ∧ X.ev f (.t q3) = .i .i64 (a : Int) ∧ X.ev f (.t q10) = v10 ∧ X.ev f (.t q17) = x17 ∧ X.ev f (.t q20) = x20 ∧ X.ev f (.t q21) = x21 ∧ X.ev f (.t q22) = x22 ∧ X.ev f (.t q23) = .i .i64 s.2.1 ∧ X.ev f (.t q24) = .i .i64 (s.2.2 : Int) ∧ X.ev f (.t q25) = .i .i64 ((a : Int) + 1 + (k : Int)) ∧ X.ev f (.t q26) = .i .i64 ((s.1 : Int) - 1) ∧ Ext M1 M' ∧ Low ps r k s.1 s.2.1 s.2.2) (fun s => s.1) ?_ (ps.length, (best ps r k).1, (best ps r k).2) ?_
   ·rintro ⟨j, rr, ll⟩ f M2 ⟨hj, e1, e2, e3, e10, e17, e20, e21, e22, e23, e24, e25, e26, x2, hlow⟩
    have hj : j ≤ ps.length := hj
    have xn2 := x2.n
    have xl2 := x2.lo
    simp only [q1, q2, q3, q10, q17, q20, q21, q22, q23, q24, q25, q26] at e1 e2 e3 e10 e17 e20 e21 e22 e23 e24 e25 e26
    unfold L6_8
    cases j with
    | zero =>
     have dj : decide ((0 : Int) ≤ ((0 : Nat) : Int) - 1) = false := by decide
     simp (disch := first | omega | assumption) only [↓bxD, bA, reduceCtorEq, e1, e2, e3, e10, e17, e20, e21, e22, e23, e24, e25, e26, s1, s2, r1, r2, nck_p, dj]
     obtain ⟨hb1, hb2⟩ := hlow.best
     show Wp fns K6_9 _ _ _
     unfold K6_9
     simp (disch := first | omega | assumption) only [↓bxD, bA, reduceCtorEq, e1, e2, e3, e10, e17, e20, e21, e22, e23, e24, e25, e26, s1, s2, r1, r2, nck_p]
     refine ⟨k + 1, by omega, by omega, ?_⟩
     rw [← hb1, ← hb2]
     exact ⟨rfl, rfl, by congr 1 <;> omega, x1.trans x2⟩
    | succ j =>
     have hjn : ((j + 1 : Nat) : Int) - 1 = (j : Int) := by omega
     rw [hjn] at e26
     have dj : decide ((0 : Int) ≤ (j : Int)) = true := decide_eq_true (by omega)
     have hjl : j < ps.length := by omega
     obtain ⟨q, hq⟩ : ∃ q, ps[j]? = some q := ⟨_, List.getElem?_eq_getElem hjl⟩
     obtain ⟨e, he⟩ : ∃ e, es[j]? = some e := ⟨_, List.getElem?_eq_getElem (by omega)⟩
     have hqm := List.mem_of_getElem? hq
     have hP0 := (hpv j e q he hq).ext (x1.trans x2)
     have hP := hP0
     obtain ⟨vs, vf, vl, vo, fs, rfl, _⟩ := hP0
     obtain ⟨ro', sz', t', g', _, hat⟩ := (hr0.ext (x1.trans x2)).read he
     have hg5 : Ev.getN t' 5 (soff v10 + j * 5) = some [vs, .b q.1.null, vf, vl, vo] := hat.getN
     have ix0 : ixV 5 v10 (.i .i64 (j : Int)) = some (.p (sid v10) (soff v10 + j * 5)) := ix_sl r1 (by rw [r2]; exact hjl)
     have hcut : cutM 1 v1 (some (.i .i64 (a : Int))) (some (.i .i64 ((a : Int) + 1 + (k : Int)))) = some (cutHi (k + 1) (cutLo 1 a v1)) := by
      have := cutM_two (sz := 1) (k := .i64) s1 (by omega : a ≤ a + 1 + k) (by omega)
      rw [show a + 1 + k - a = k + 1 by omega, show ((a + 1 + k : Nat) : Int) = (a : Int) + 1 + (k : Int) by omega] at this
      exact this
     have hrow : RowAt M2 1 (cutHi (k + 1) (cutLo 1 a v1)) (bvs (r.take (k + 1))) := by
      have h1 := row_skip (i := a) (hb.ext (x1.trans x2)) (by rw [bvs_len]; exact ha)
      have h2 := row_take (i := k + 1) h1 (by rw [List.length_drop, bvs_len]; omega)
      rw [← hrr]
      unfold bvs at h2 ⊢
      rw [List.map_take, List.map_drop]
      exact h2
     simp (disch := first | omega | assumption) only [↓bxD, bA, reduceCtorEq, e1, e2, e3, e10, e17, e20, e21, e22, e23, e24, e25, e26, s1, s2, r1, r2, nck_p, dj]
     show Wp fns K6_7 _ _ _
     unfold K6_7
     simp (disch := first | omega | assumption) only [↓bxD, bA, reduceCtorEq, e1, e2, e3, e10, e17, e20, e21, e22, e23, e24, e25, e26, s1, s2, r1, r2, nck_p]
     refine Wp_dreg_of (by omega) ?_
     simp (disch := first | omega | assumption) only [↓bxD, bA, reduceCtorEq, e1, e2, e3, e10, e17, e20, e21, e22, e23, e24, e25, e26, s1, s2, r1, r2, nck_p, ix0, g', hg5, hcut, Option.map_some]
     refine bindP_call (dtakes_any (by omega) hP (hok.q q hqm) (hok.fl q hqm) hrow (fun c hc => hby c (by
      have := List.mem_of_mem_take hc
      rw [← hrr] at this
      exact List.mem_of_mem_drop this)) (by rw [List.length_take]; omega)) ?_
     rintro m M3 ⟨rfl, x3⟩
     cases ht : takesD q (r.take (k + 1)) with
     | true =>
      simp (disch := first | omega | assumption) only [↓bxD, bA, reduceCtorEq, e1, e2, e3, e10, e17, e20, e21, e22, e23, e24, e25, e26, s1, s2, r1, r2, nck_p]
      show Wp fns K6_5 _ _ _
      unfold K6_5
      simp (disch := first | omega | assumption) only [↓bxD, bA, reduceCtorEq, e1, e2, e3, e10, e17, e20, e21, e22, e23, e24, e25, e26, s1, s2, r1, r2, nck_p]
      show Wp fns K6_6 _ _ _
      unfold K6_6
      simp (disch := first | omega | assumption) only [↓bxD, bA, reduceCtorEq, e1, e2, e3, e10, e17, e20, e21, e22, e23, e24, e25, e26, s1, s2, r1, r2, nck_p]
      exact ⟨(j, (j : Int), k + 1), by show j < j + 1; omega, by show j ≤ _; omega, rfl, congrArg (MV.i .i64) (by show (a : Int) + 1 + (k : Int) - (a : Int) = ((k + 1 : Nat) : Int); omega), rfl, x2.trans x3, Low.hit hq ht⟩
     | false =>
      simp (disch := first | omega | assumption) only [↓bxD, bA, reduceCtorEq, e1, e2, e3, e10, e17, e20, e21, e22, e23, e24, e25, e26, s1, s2, r1, r2, nck_p]
      show Wp fns K6_5 _ _ _
      unfold K6_5
      simp (disch := first | omega | assumption) only [↓bxD, bA, reduceCtorEq, e1, e2, e3, e10, e17, e20, e21, e22, e23, e24, e25, e26, s1, s2, r1, r2, nck_p]
      show Wp fns K6_6 _ _ _
      unfold K6_6
      simp (disch := first | omega | assumption) only [↓bxD, bA, reduceCtorEq, e1, e2, e3, e10, e17, e20, e21, e22, e23, e24, e25, e26, s1, s2, r1, r2, nck_p]
      refine ⟨(j, rr, ll), by show j < j + 1; omega, by show j ≤ _; omega, rfl, rfl, rfl, x2.trans x3, hlow.miss hq ht⟩
   ·refine ⟨Nat.le_refl _, by simp only [bA, reduceCtorEq, e1, e2, e3, e10, e17, e20, e21, e22, e23, e24, e25, s1, s2, r1, r2, nck_p], by simp only [bA, reduceCtorEq, e1, e2, e3, e10, e17, e20, e21, e22, e23, e24, e25, s1, s2, r1, r2, nck_p], by simp only [bA, reduceCtorEq, e1, e2, e3, e10, e17, e20, e21, e22, e23, e24, e25, s1, s2, r1, r2, nck_p], by simp only [bA, reduceCtorEq, e1, e2, e3, e10, e17, e20, e21, e22, e23, e24, e25, s1, s2, r1, r2, nck_p], by simp only [bA, reduceCtorEq, e1, e2, e3, e10, e17, e20, e21, e22, e23, e24, e25, s1, s2, r1, r2, nck_p], by simp only [bA, reduceCtorEq, e1, e2, e3, e10, e17, e20, e21, e22, e23, e24, e25, s1, s2, r1, r2, nck_p], by simp only [bA, reduceCtorEq, e1, e2, e3, e10, e17, e20, e21, e22, e23, e24, e25, s1, s2, r1, r2, nck_p], by simp only [bA, reduceCtorEq, e1, e2, e3, e10, e17, e20, e21, e22, e23, e24, e25, s1, s2, r1, r2, nck_p], by simp only [bA, reduceCtorEq, e1, e2, e3, e10, e17, e20, e21, e22, e23, e24, e25, s1, s2, r1, r2, nck_p], by simp only [bA, reduceCtorEq, e1, e2, e3, e10, e17, e20, e21, e22, e23, e24, e25, s1, s2, r1, r2, nck_p], by simp only [bA, reduceCtorEq, e1, e2, e3, e10, e17, e20, e21, e22, e23, e24, e25, s1, s2, r1, r2, nck_p], by simp only [bA, reduceCtorEq, e1, e2, e3, e10, e17, e20, e21, e22, e23, e24, e25, s1, s2, r1, r2, nck_p] <;> rfl, .refl _, Low.start ps r k⟩
  ·have hkl : k = r.length := by omega
   have dk : decide ((a : Int) + 1 + (k : Int) ≤ (b.length : Int)) = false := decide_eq_false (by omega)
   rw [hkl] at e23 e24
   simp (disch := first | omega | assumption) only [↓bxD, bA, reduceCtorEq, e1, e2, e3, e10, e17, e20, e21, e22, e23, e24, e25, s1, s2, r1, r2, nck_p, dk]
   exact hQ _ _ (by simp only [bA, reduceCtorEq, e1, e2, e3, e10, e17, e20, e21, e22, e23, e24, e25, s1, s2, r1, r2, nck_p]) (by simp only [bA, reduceCtorEq, e1, e2, e3, e10, e17, e20, e21, e22, e23, e24, e25, s1, s2, r1, r2, nck_p]) (by simp only [bA, reduceCtorEq, e1, e2, e3, e10, e17, e20, e21, e22, e23, e24, e25, s1, s2, r1, r2, nck_p]) (by simp only [bA, reduceCtorEq, e1, e2, e3, e10, e17, e20, e21, e22, e23, e24, e25, s1, s2, r1, r2, nck_p]) (by simp only [bA, reduceCtorEq, e1, e2, e3, e10, e17, e20, e21, e22, e23, e24, e25, s1, s2, r1, r2, nck_p]) (by simp only [bA, reduceCtorEq, e1, e2, e3, e10, e17, e20, e21, e22, e23, e24, e25, s1, s2, r1, r2, nck_p]) (by simp only [bA, reduceCtorEq, e1, e2, e3, e10, e17, e20, e21, e22, e23, e24, e25, s1, s2, r1, r2, nck_p]) (by simp only [bA, reduceCtorEq, e1, e2, e3, e10, e17, e20, e21, e22, e23, e24, e25, s1, s2, r1, r2, nck_p]) (by simp only [bA, reduceCtorEq, e1, e2, e3, e10, e17, e20, e21, e22, e23, e24, e25, s1, s2, r1, r2, nck_p]) x1
 ·exact ⟨Nat.zero_le _, h1, h2, h3, h10, h17, h20, h21, h22, h23, h24, by simp only [q25]; rw [h25]; congr 1 <;> omega, .refl _⟩
theorem Aut.dok {ps : List (Pm × Bs)} {D : List (List Int)} {Ac : List Int} (h : Aut ps D Ac) : DOk D Ac := ⟨h.acl, h.row, h.to, Nat.le_trans h.big (by decide)⟩
theorem law_longest {M : MH} {v0 v1 v2 : MV} {a : Int} {ss : List ByteArray} {b o : List Nat} (hlo : M.lo ≤ M.n) (hr : RowAt M 1 v0 (svs ss)) (hss : ∀ s ∈ ss, (s.size : Int) ≤ 9223372036854775807) (hb : RowAt M 1 v1 (bvs b)) (hby : ∀ c ∈ b, c < 256) (ho : RowAt M 1 v2 (bvs o)) (hoy : ∀ c ∈ o, c < 256) (ha : ∀ M, Cp fns 14 [] M fun m M' => m = .b true ∧ M' = M) : Cp fns 6 [v0, v1, v2, .i .i64 a] M fun m _ => m = .b true := by
 obtain ⟨s1, s2⟩ := hr.sl
 have s2 : slen v0 = ss.length := s2.trans (svs_len ss)
 obtain ⟨b1, b2⟩ := hb.sl
 have b2 : slen v1 = b.length := b2.trans (bvs_len b)
 obtain ⟨o1, o2⟩ := ho.sl
 have o2 : slen v2 = o.length := o2.trans (bvs_len o)
 refine Cp_call (fn := F6) (by kernel_rfl) (Nat.le_of_ble_eq_true rfl) ?_
 show Wp fns B6 (T.set q3 (some (.i .i64 a)) (T.set q2 (some v2) (T.set q1 (some v1) (T.set q0 (some v0) T.lf)))) M _
 unfold B6
 simp (maxSteps := 4000000) (disch := first | omega | assumption | (simp only [bxS, bxV, stOk, Nat.reduceBEq, Nat.reduceEqDiff, Nat.reduceAdd]; done) | (simp only [bxU]; omega) | ((try apply has_setN); apply has_ofL; simp only [bxL]; omega)) only [↓bxD, bxP, bxQ, bxQ2, Nat.reduceBEq, reduceCtorEq, Nat.reduceAdd, Nat.reduceSub, Nat.reduceMul, Nat.reduceLeDiff, Nat.reduceLT, bxR, s1, s2, b1, b2, o1, o2, nck_p]
 refine bindP_call (ha _) ?_
 rintro m M1 ⟨rfl, hM⟩
 obtain rfl : M = M1 := hM.symm
 by_cases c1 : (6 : Int) < (ss.length : Int)
 ·have d1 : decide ((6 : Int) < (ss.length : Int)) = true := decide_eq_true c1
  simp (maxSteps := 4000000) (disch := first | omega | assumption | (simp only [bxS, bxV, stOk, Nat.reduceBEq, Nat.reduceEqDiff, Nat.reduceAdd]; done) | (simp only [bxU]; omega) | ((try apply has_setN); apply has_ofL; simp only [bxL]; omega)) only [↓bxD, bxP, bxQ, bxQ2, Nat.reduceBEq, reduceCtorEq, Nat.reduceAdd, Nat.reduceSub, Nat.reduceMul, Nat.reduceLeDiff, Nat.reduceLT, bxR, s1, s2, b1, b2, o1, o2, nck_p, d1]
 have d1 : decide ((6 : Int) < (ss.length : Int)) = false := decide_eq_false c1
 by_cases c2 : (60 : Int) < (b.length : Int)
 ·have d2 : decide ((60 : Int) < (b.length : Int)) = true := decide_eq_true c2
  simp (maxSteps := 4000000) (disch := first | omega | assumption | (simp only [bxS, bxV, stOk, Nat.reduceBEq, Nat.reduceEqDiff, Nat.reduceAdd]; done) | (simp only [bxU]; omega) | ((try apply has_setN); apply has_ofL; simp only [bxL]; omega)) only [↓bxD, bxP, bxQ, bxQ2, Nat.reduceBEq, reduceCtorEq, Nat.reduceAdd, Nat.reduceSub, Nat.reduceMul, Nat.reduceLeDiff, Nat.reduceLT, bxR, s1, s2, b1, b2, o1, o2, nck_p, d1, d2]
 have d2 : decide ((60 : Int) < (b.length : Int)) = false := decide_eq_false c2
 by_cases c3 : (60 : Int) < (o.length : Int)
 ·have d3 : decide ((60 : Int) < (o.length : Int)) = true := decide_eq_true c3
  simp (maxSteps := 4000000) (disch := first | omega | assumption | (simp only [bxS, bxV, stOk, Nat.reduceBEq, Nat.reduceEqDiff, Nat.reduceAdd]; done) | (simp only [bxU]; omega) | ((try apply has_setN); apply has_ofL; simp only [bxL]; omega)) only [↓bxD, bxP, bxQ, bxQ2, Nat.reduceBEq, reduceCtorEq, Nat.reduceAdd, Nat.reduceSub, Nat.reduceMul, Nat.reduceLeDiff, Nat.reduceLT, bxR, s1, s2, b1, b2, o1, o2, nck_p, d1, d2, d3]
 have d3 : decide ((60 : Int) < (o.length : Int)) = false := decide_eq_false c3
 by_cases c4 : a < 0
 ·have d4 : decide (a < 0) = true := decide_eq_true c4
  simp (maxSteps := 4000000) (disch := first | omega | assumption | (simp only [bxS, bxV, stOk, Nat.reduceBEq, Nat.reduceEqDiff, Nat.reduceAdd]; done) | (simp only [bxU]; omega) | ((try apply has_setN); apply has_ofL; simp only [bxL]; omega)) only [↓bxD, bxP, bxQ, bxQ2, Nat.reduceBEq, reduceCtorEq, Nat.reduceAdd, Nat.reduceSub, Nat.reduceMul, Nat.reduceLeDiff, Nat.reduceLT, bxR, s1, s2, b1, b2, o1, o2, nck_p, d1, d2, d3, d4]
 have d4 : decide (a < 0) = false := decide_eq_false c4
 by_cases c5 : (b.length : Int) < a
 ·have d5 : decide ((b.length : Int) < a) = true := decide_eq_true c5
  simp (maxSteps := 4000000) (disch := first | omega | assumption | (simp only [bxS, bxV, stOk, Nat.reduceBEq, Nat.reduceEqDiff, Nat.reduceAdd]; done) | (simp only [bxU]; omega) | ((try apply has_setN); apply has_ofL; simp only [bxL]; omega)) only [↓bxD, bxP, bxQ, bxQ2, Nat.reduceBEq, reduceCtorEq, Nat.reduceAdd, Nat.reduceSub, Nat.reduceMul, Nat.reduceLeDiff, Nat.reduceLT, bxR, s1, s2, b1, b2, o1, o2, nck_p, d1, d2, d3, d4, d5]
 have d5 : decide ((b.length : Int) < a) = false := decide_eq_false c5
 simp (maxSteps := 4000000) (disch := first | omega | assumption | (simp only [bxS, bxV, stOk, Nat.reduceBEq, Nat.reduceEqDiff, Nat.reduceAdd]; done) | (simp only [bxU]; omega) | ((try apply has_setN); apply has_ofL; simp only [bxL]; omega)) only [↓bxD, bxP, bxQ, bxQ2, Nat.reduceBEq, reduceCtorEq, Nat.reduceAdd, Nat.reduceSub, Nat.reduceMul, Nat.reduceLeDiff, Nat.reduceLT, bxR, s1, s2, b1, b2, o1, o2, nck_p, d1, d2, d3, d4, d5]
 obtain ⟨n, rfl⟩ : ∃ n : Nat, a = n := ⟨a.toNat, by omega⟩
 show Wp fns K6_17 _ _ _
 unfold K6_17
 simp (maxSteps := 4000000) (disch := first | omega | assumption | (simp only [bxS, bxV, stOk, Nat.reduceBEq, Nat.reduceEqDiff, Nat.reduceAdd]; done) | (simp only [bxU]; omega) | ((try apply has_setN); apply has_ofL; simp only [bxL]; omega)) only [↓bxD, bxP, bxQ, bxQ2, Nat.reduceBEq, reduceCtorEq, Nat.reduceAdd, Nat.reduceSub, Nat.reduceMul, Nat.reduceLeDiff, Nat.reduceLT, bxR, s1, s2, b1, b2, o1, o2, nck_p]
 refine pats_any (M := M) (v0 := v0) (v1 := v1) (v2 := v2) (v3 := .i .i64 (n : Int)) (ss := ss) hlo (by simp only [bxP, bxQ, bxQ2, reduceCtorEq, s1, s2, b1, b2, o1, o2, nck_p]) (by simp only [bxP, bxQ, bxQ2, reduceCtorEq, s1, s2, b1, b2, o1, o2, nck_p]) (by simp only [bxP, bxQ, bxQ2, reduceCtorEq, s1, s2, b1, b2, o1, o2, nck_p]) (by simp only [bxP, bxQ, bxQ2, reduceCtorEq, s1, s2, b1, b2, o1, o2, nck_p]) (by simp only [bxP, bxQ, bxQ2, reduceCtorEq, s1, s2, b1, b2, o1, o2, nck_p]) (by simp only [bxP, bxQ, bxQ2, reduceCtorEq, s1, s2, b1, b2, o1, o2, nck_p]) hr hss (by omega) (fun f' M' h8 => ?_) ?_
 ·show ∃ l, resL f' M' [IRes.tmp q8] = some l ∧ _
  exact ⟨[.b true], by rw [resL_1, res_of h8 rfl], rfl⟩
 intro f M2 v10 es ps e1 e2 e3 e10 x2 hpr hpl
 have hps := hpr.ps
 have hok : OkPs ps := ⟨hpr.q, hpr.fl, hpr.sl, by omega⟩
 have n2 := x2.n
 have l2 := x2.lo
 simp only [q1, q2, q3, q10] at e1 e2 e3 e10
 show Wp fns K6_16 _ _ _
 unfold K6_16
 simp (maxSteps := 4000000) (disch := first | omega | assumption | (simp only [bxS, bxV, stOk, Nat.reduceBEq, Nat.reduceEqDiff, Nat.reduceAdd]; done) | (simp only [bxU]; omega) | ((try apply has_setN); apply has_ofL; simp only [bxL]; omega)) only [↓bxD, bxP, bxQ, bxQ2, Nat.reduceBEq, reduceCtorEq, Nat.reduceAdd, Nat.reduceSub, Nat.reduceMul, Nat.reduceLeDiff, Nat.reduceLT, bxR, e1, e2, e3, e10, b1, b2, o1, o2, nck_p]
 refine bindP_call (dfa_any (by omega) hps hok) ?_
 rintro m M3 ⟨x3, rfl | ⟨d, D, Ac, ord, all, N, A, out, cl, rfl, hda, hsi, hNl, hAl, huv, N', hp, hsh, hcl, hoi, hDl, hAc⟩⟩
 ·have n3 := x3.n
  have l3 := x3.lo
  have hst2 : stOk 2 (.ag [.nils, .nils]) = true := rfl
  have hcl2 : MV.cells (.ag [.nils, .nils]) = [.nils, .nils] := rfl
  simp (disch := first | omega | assumption | (simp only [bZ, stOk, Nat.reduceBEq, Nat.reduceEqDiff, Nat.reduceAdd] <;> omega) | ((try apply has_setN); apply has_ofL; simp only [bxL]; omega)) only [↓bxD, bA, Nat.reduceBEq, reduceCtorEq, Nat.reduceAdd, Nat.reduceSub, Nat.reduceMul, Nat.reduceLeDiff, Nat.reduceLT, e1, e2, e3, e10, b1, b2, o1, o2, nck_p, hst2, hcl2]
 ·have n3 := x3.n
  have l3 := x3.lo
  have haut := aut_of hsi hNl hAl huv hp hsh hcl hoi hDl hAc
  have hda0 := hda
  obtain ⟨vn, va, rfl, m1, m2⟩ := hda0
  obtain ⟨w1, w2⟩ := m2.sl
  have hvn : isSl vn = true := by
   obtain ⟨_, mm, _⟩ := m1
   exact mm.sl.1
  have hst2 : stOk 2 (.ag [vn, va]) = true := by
   cases vn <;> first | cases hvn | skip
   all_goals cases va <;> first | cases w1 | skip
   all_goals rfl
  have hcl2 : MV.cells (.ag [vn, va]) = [vn, va] := rfl
  simp (disch := first | omega | assumption | (simp only [bZ, stOk, Nat.reduceBEq, Nat.reduceEqDiff, Nat.reduceAdd] <;> omega) | ((try apply has_setN); apply has_ofL; simp only [bxL]; omega)) only [↓bxD, bA, Nat.reduceBEq, reduceCtorEq, Nat.reduceAdd, Nat.reduceSub, Nat.reduceMul, Nat.reduceLeDiff, Nat.reduceLT, e1, e2, e3, e10, b1, b2, o1, o2, nck_p, hst2, hcl2]
  generalize hM4 : (M3.push _).set M3.n _ = M4
  have x4 : Ext M3 M4 := by rw [← hM4]; exact (Ext.push M3 _).set _ (Nat.le_refl _)
  have n4 : M4.n = M3.n + 1 := by rw [← hM4]; rfl
  have l4 := x4.lo
  have g4 : M4.get M3.n = some (.cs false 2 (setN [vn, va] 0 (ofL [.nils, .nils] 0))) := by rw [← hM4, set_same]
  clear hM4
  have hgn : Ev.getN (setN [vn, va] 0 (ofL [MV.nils, .nils] 0)) 2 0 = some [vn, va] := (at_setN _ _ _).getN
  have xx := x2.trans (x3.trans x4)
  have hnl : n ≤ b.length := by omega
  show Wp fns K6_15 _ _ _
  unfold K6_15
  simp (disch := first | omega | assumption | (simp only [bZ, stOk, Nat.reduceBEq, Nat.reduceEqDiff, Nat.reduceAdd] <;> omega) | ((try apply has_setN); apply has_ofL; simp only [bxL]; omega)) only [↓bxD, bA, Nat.reduceBEq, reduceCtorEq, Nat.reduceAdd, Nat.reduceSub, Nat.reduceMul, Nat.reduceLeDiff, Nat.reduceLT, e1, e2, e3, e10, b1, b2, o1, o2, nck_p, g4, hgn, map_ag]
  refine bindP_call (next_any (b := b) (a := n) (by omega) ⟨vn, va, rfl, m1.ext x4, m2.ext x4⟩ haut.dok haut.pos (hb.ext xx) hby (by omega) hnl) ?_
  rintro m M5 ⟨rfl, x5⟩
  have n5 := x5.n
  have l5 := x5.lo
  have hnb := nx_best haut (b := b.drop n) (fun c hc => hby c (List.mem_of_mem_drop hc)) (b.drop n) 0 0 rfl (Nat.zero_le _) rfl haut.pos
  have hnl0 := nx_look D Ac (b.drop n) 0 0 (-1) 0
  have hfar := fun r' k => nx_far D Ac (b.drop n) r' 0 0 (-1) 0 k
  have e0 : best ps (b.drop n) 0 = (-1, 0) := rfl
  rw [e0] at hnb
  simp only at hnb
  generalize hR : nx D Ac 0 0 (-1) 0 (b.drop n) = R at hnb hnl0 hfar
  obtain ⟨ru, lg, lk⟩ := R
  simp only at hnb hnl0 hfar
  obtain ⟨hb1, hb2⟩ := hnb
  simp (disch := first | omega | assumption | (simp only [bZ, stOk, Nat.reduceBEq, Nat.reduceEqDiff, Nat.reduceAdd] <;> omega) | ((try apply has_setN); apply has_ofL; simp only [bxL]; omega)) only [↓bxD, bA, Nat.reduceBEq, reduceCtorEq, Nat.reduceAdd, Nat.reduceSub, Nat.reduceMul, Nat.reduceLeDiff, Nat.reduceLT, e1, e2, e3, e10, b1, b2, o1, o2, nck_p]
  refine long_any (M := M5) (v1 := v1) (v2 := v2) (v10 := v10) (x17 := .p M3.n 0) (x20 := .i .i64 ru) (x21 := .i .i64 (lg : Int)) (x22 := .i .i64 (lk : Int)) (a := n) (b := b) (ps := ps) (by omega) (by simp only [bxP, bxQ, bxQ2, reduceCtorEq, e1, e2, e3, e10, b1, b2, o1, o2, nck_p]) (by simp only [bxP, bxQ, bxQ2, reduceCtorEq, e1, e2, e3, e10, b1, b2, o1, o2, nck_p]) (by simp only [bxP, bxQ, bxQ2, reduceCtorEq, e1, e2, e3, e10, b1, b2, o1, o2, nck_p]) (by simp only [bxP, bxQ, bxQ2, reduceCtorEq, e1, e2, e3, e10, b1, b2, o1, o2, nck_p]) (by simp only [bxP, bxQ, bxQ2, reduceCtorEq, e1, e2, e3, e10, b1, b2, o1, o2, nck_p]) (by simp only [bxP, bxQ, bxQ2, reduceCtorEq, e1, e2, e3, e10, b1, b2, o1, o2, nck_p]) (by simp only [bxP, bxQ, bxQ2, reduceCtorEq, e1, e2, e3, e10, b1, b2, o1, o2, nck_p]) (by simp only [bxP, bxQ, bxQ2, reduceCtorEq, e1, e2, e3, e10, b1, b2, o1, o2, nck_p]) (by simp only [bxP, bxQ, bxQ2, reduceCtorEq, e1, e2, e3, e10, b1, b2, o1, o2, nck_p] <;> rfl) (by simp only [bxP, bxQ, bxQ2, reduceCtorEq, e1, e2, e3, e10, b1, b2, o1, o2, nck_p]) (by simp only [bxP, bxQ, bxQ2, reduceCtorEq, e1, e2, e3, e10, b1, b2, o1, o2, nck_p]) (hb.ext (xx.trans x5)) hby (by omega) hnl (hps.ext (x3.trans (x4.trans x5))) hok ?_
  intro f' M6 a1 a2 a3 a17 a20 a21 a22 a23 a24 x6
  simp only [q1, q2, q3, q17, q20, q21, q22, q23, q24] at a1 a2 a3 a17 a20 a21 a22 a23 a24
  rw [← hb1] at a23
  rw [← hb2] at a24
  have n6 := x6.n
  have l6 := x6.lo
  rw [List.length_drop] at hnl0
  have z1 : decide (ru ≠ ru) = false := by simp
  have z2 : decide ((lg : Int) ≠ (lg : Int)) = false := by simp
  have z3 : decide ((lk : Int) < (lg : Int)) = false := decide_eq_false (by omega)
  have z4 : decide ((b.length : Int) - (n : Int) + 1 < (lk : Int)) = false := decide_eq_false (by omega)
  show Wp fns K6_14 _ _ _
  unfold K6_14
  simp (disch := first | omega | assumption | (simp only [bZ, stOk, Nat.reduceBEq, Nat.reduceEqDiff, Nat.reduceAdd] <;> omega) | ((try apply has_setN); apply has_ofL; simp only [bxL]; omega)) only [↓bxD, bA, Nat.reduceBEq, reduceCtorEq, Nat.reduceAdd, Nat.reduceSub, Nat.reduceMul, Nat.reduceLeDiff, Nat.reduceLT, a1, a2, a3, a17, a20, a21, a22, a23, a24, b1, b2, o1, o2, nck_p, z1, z2, z3, z4]
  by_cases c6 : (b.length : Int) - (n : Int) < (lk : Int)
  ·have d6 : decide ((b.length : Int) - (n : Int) < (lk : Int)) = true := decide_eq_true c6
   show Wp fns K6_13 _ _ _
   unfold K6_13
   simp (disch := first | omega | assumption | (simp only [bZ, stOk, Nat.reduceBEq, Nat.reduceEqDiff, Nat.reduceAdd] <;> omega) | ((try apply has_setN); apply has_ofL; simp only [bxL]; omega)) only [↓bxD, bA, Nat.reduceBEq, reduceCtorEq, Nat.reduceAdd, Nat.reduceSub, Nat.reduceMul, Nat.reduceLeDiff, Nat.reduceLT, a1, a2, a3, a17, a20, a21, a22, a23, a24, b1, b2, o1, o2, nck_p, d6]
  ·have d6 : decide ((b.length : Int) - (n : Int) < (lk : Int)) = false := decide_eq_false c6
   show Wp fns K6_13 _ _ _
   unfold K6_13
   simp (disch := first | omega | assumption | (simp only [bZ, stOk, Nat.reduceBEq, Nat.reduceEqDiff, Nat.reduceAdd] <;> omega) | ((try apply has_setN); apply has_ofL; simp only [bxL]; omega)) only [↓bxD, bA, Nat.reduceBEq, reduceCtorEq, Nat.reduceAdd, Nat.reduceSub, Nat.reduceMul, Nat.reduceLeDiff, Nat.reduceLT, a1, a2, a3, a17, a20, a21, a22, a23, a24, b1, b2, o1, o2, nck_p, d6]
   have x06 := xx.trans (x5.trans x6)
   have hbone : ∀ l : List Nat, ∀ e ∈ bvs l, allOne e = true := fun l e he => by
    unfold bvs at he
    obtain ⟨k, _, rfl⟩ := List.mem_map.1 he
    rfl
   have hcut : cutM 1 v1 none (some (.i .i64 ((n : Int) + (lk : Int)))) = some (cutHi (n + lk) v1) := by
    have := cutM_hi (sz := 1) (h := n + lk) (k := .i64) b1 (by omega)
    rw [show ((n + lk : Nat) : Int) = (n : Int) + (lk : Int) by omega] at this
    exact this
   have hrow : RowAt M6 1 (cutHi (n + lk) v1) (bvs (b.take (n + lk))) := by
    have h2 := row_take (i := n + lk) (hb.ext x06) (by rw [bvs_len]; omega)
    unfold bvs at h2 ⊢
    rw [List.map_take]
    exact h2
   have htl : (b.take (n + lk)).length ≤ 60 := by rw [List.length_take]; omega
   have hol : o.length ≤ 60 := by omega
   obtain ⟨v', M7, p1, p2, p3, p4, p5, p6, _⟩ := app_rowX (bytes := 1) (OwnRow.nil M6.n M6 1) hrow (by omega) (Nat.le_refl _) (hbone _) (by rw [bvs_len]; simp only [List.length_nil]; omega) (by rw [bvs_len]; simp only [List.length_nil]; omega)
   rw [List.nil_append] at p2
   have x7 : Ext M6 M7 := ⟨p3, p4, fun j hj => p6 j hj hj⟩
   obtain ⟨v'', M8, t1, t2, t3, t4, t5, t6, _⟩ := app_rowX (bytes := 1) p2 (ho.ext (x06.trans x7)) (by omega) (by omega) (hbone _) (by rw [bvs_len, bvs_len]; omega) (by rw [bvs_len, bvs_len]; omega)
   have x8 : Ext M6 M8 := ⟨by omega, by omega, fun j hj => (t6 j hj (by omega)).trans (x7.old j hj)⟩
   have hrow2 : RowAt M8 1 v'' (bvs (b.take (n + lk) ++ o)) := by
    have := t2.row
    unfold bvs at this ⊢
    rw [List.map_append]
    exact this
   show Wp fns K6_12 _ _ _
   unfold K6_12
   simp (disch := first | omega | assumption | (simp only [bZ, stOk, Nat.reduceBEq, Nat.reduceEqDiff, Nat.reduceAdd] <;> omega) | ((try apply has_setN); apply has_ofL; simp only [bxL]; omega)) only [↓bxD, bA, Nat.reduceBEq, reduceCtorEq, Nat.reduceAdd, Nat.reduceSub, Nat.reduceMul, Nat.reduceLeDiff, Nat.reduceLT, a1, a2, a3, a17, a20, a21, a22, a23, a24, b1, b2, o1, o2, nck_p, hcut, Option.map_some, Option.map_none]
   refine bindP_of p1 ?_
   simp (disch := first | omega | assumption | (simp only [bZ, stOk, Nat.reduceBEq, Nat.reduceEqDiff, Nat.reduceAdd] <;> omega) | ((try apply has_setN); apply has_ofL; simp only [bxL]; omega)) only [↓bxD, bA, Nat.reduceBEq, reduceCtorEq, Nat.reduceAdd, Nat.reduceSub, Nat.reduceMul, Nat.reduceLeDiff, Nat.reduceLT, a1, a2, a3, a17, a20, a21, a22, a23, a24, b1, b2, o1, o2, nck_p]
   refine bindP_of t1 ?_
   have g8 := ((x5.trans (x6.trans x8)).old M3.n (by omega)).trans g4
   simp (disch := first | omega | assumption | (simp only [bZ, stOk, Nat.reduceBEq, Nat.reduceEqDiff, Nat.reduceAdd] <;> omega) | ((try apply has_setN); apply has_ofL; simp only [bxL]; omega)) only [↓bxD, bA, Nat.reduceBEq, reduceCtorEq, Nat.reduceAdd, Nat.reduceSub, Nat.reduceMul, Nat.reduceLeDiff, Nat.reduceLT, a1, a2, a3, a17, a20, a21, a22, a23, a24, b1, b2, o1, o2, nck_p, g8, hgn, map_ag]
   refine bindP_call (next_any (b := b.take (n + lk) ++ o) (a := n) (by omega) ⟨vn, va, rfl, m1.ext (x4.trans (x5.trans (x6.trans x8))), m2.ext (x4.trans (x5.trans (x6.trans x8)))⟩ haut.dok haut.pos hrow2 ?_ ?_ ?_) ?_
   ·intro c hc
    rcases List.mem_append.1 hc with hc | hc
    ·exact hby c (List.mem_of_mem_take hc)
    ·exact hoy c hc
   ·rw [List.length_append]; omega
   ·rw [List.length_append, List.length_take]; omega
   ·rintro m M9 ⟨rfl, x9⟩
    have hdr : ((b.take (n + lk) ++ o).drop n).take lk = (b.drop n).take lk := by
     rw [List.drop_append_of_le_length (by rw [List.length_take]; omega), List.drop_take, show n + lk - n = lk by omega, List.take_append_of_le_length (by rw [List.length_take, List.length_drop]; omega), List.take_take, Nat.min_self]
    have := hfar _ lk (by omega) (by rw [List.length_drop]; omega) hdr
    rw [this]
    simp (maxSteps := 4000000) (disch := first | omega | assumption | (simp only [bxS, bxV, stOk, Nat.reduceBEq, Nat.reduceEqDiff, Nat.reduceAdd]; done) | (simp only [bxU]; omega) | ((try apply has_setN); apply has_ofL; simp only [bxL]; omega)) only [↓bxD, bxP, bxQ, bxQ2, Nat.reduceBEq, reduceCtorEq, Nat.reduceAdd, Nat.reduceSub, Nat.reduceMul, Nat.reduceLeDiff, Nat.reduceLT, bxR, a1, a2, a3, a17, a20, a21, a22, a23, a24, b1, b2, o1, o2, nck_p]
theorem Cp_alive {fns : Nat → Option IFn} {g : Nat} {M : MH} (hg : fns g = some Ftrue) : Cp fns g [] M fun m M' => m = .b true ∧ M' = M := by
 refine Cp_call hg (Nat.le_refl _) ?_
 show Wp fns (.reg [⟨some (.k1 .d0), none, .mov (.c (.b true))⟩]) _ M _
 simp only [Wp_reg_iff, Wl_op_iff, Wl_nil_iff, bindP_some, ev_mov, ev_c, setD_some, retQ_norm, show Ftrue.res = [.tmp (.k1 .d0)] from rfl, resL_1, res_set, if_true, Option.some.injEq, exists_eq_left']
 simp [packM]
theorem bytes_row : ∀ {es : List (List MV)}, (∀ x ∈ es, ∃ c : Nat, x = [.i .u8 (c : Int)] ∧ c < 256) → ∃ w : List Nat, es = bvs w ∧ ∀ c ∈ w, c < 256
 | [], _ => ⟨[], rfl, fun c h => by cases h⟩
 | x :: es, h => by
  obtain ⟨a, rfl, wa⟩ := h x List.mem_cons_self
  obtain ⟨l, rfl, hl⟩ := bytes_row fun y hy => h y (List.mem_cons_of_mem _ hy)
  exact ⟨a :: l, rfl, fun b hb => (List.mem_cons.1 hb).elim (fun e => e ▸ wa) (hl b)⟩
theorem strs_row : ∀ {es : List (List MV)}, (∀ x ∈ es, ∃ s : ByteArray, x = [.s s] ∧ s.size ≤ maxLen) → ∃ ss : List ByteArray, es = svs ss ∧ ∀ s ∈ ss, s.size ≤ maxLen
 | [], _ => ⟨[], rfl, fun c h => by cases h⟩
 | x :: es, h => by
  obtain ⟨a, rfl, wa⟩ := h x List.mem_cons_self
  obtain ⟨l, rfl, hl⟩ := strs_row fun y hy => h y (List.mem_cons_of_mem _ hy)
  exact ⟨a :: l, rfl, fun b hb => (List.mem_cons.1 hb).elim (fun e => e ▸ wa) (hl b)⟩
theorem typed_bytes {M : MH} {n : Nat} {x : List MV} (t : Typed Try.prog M n 22 x) : ∃ v w, x = [v] ∧ RowAt M 1 v (bvs w) ∧ ∀ c ∈ w, c < 256 := by
 cases n with
 | zero => exact t.elim
 | succ n =>
  simp only [Typed, Try.underlying22] at t
  obtain ⟨v, es, rfl, hr, hm, hl⟩ := t
  rw [show Try.prog.cellsOf 5 = 1 from by kernel_rfl] at hr
  obtain ⟨w, rfl, hw⟩ := bytes_row (es := es) fun x hx => by
   have := hl x hx
   cases n with
   | zero => exact this.elim
   | succ n =>
    simp only [Typed, Try.underlying5] at this
    obtain ⟨z, rfl, hz⟩ := this
    simp only [Lit.wf, Bool.and_eq_true, decide_eq_true_eq] at hz
    have hz1 : 0 ≤ z := hz.1
    have hz2 : z ≤ 255 := hz.2
    exact ⟨z.toNat, by rw [Int.toNat_of_nonneg hz1], by omega⟩
  exact ⟨v, w, rfl, hr, hw⟩
theorem long_model (M : MH) (ms : List MV) (hx : Ext Mz M) (hlo : M.lo ≤ M.n) (ha : ArgsTyped Try.prog M [46, 22, 22, 3] ms) : Cp fns 6 ms M fun m _ => m = .b true := by
 obtain ⟨m1, r1, rfl, ⟨n1, c1, t1, e1⟩, m2, r2, rfl, ⟨n2, c2, t2, e2⟩, m3, r3, rfl, ⟨n3, c3, t3, e3⟩, m4, r4, rfl, ⟨n4, c4, t4, e4⟩, rfl⟩ := ha
 simp only [Try.underlying46] at e1
 simp only [Try.underlying22] at e2 e3
 simp only [Try.underlying3] at e4
 subst e1 e2 e3 e4
 obtain ⟨v2, w2, e, hr2, hw2⟩ := typed_bytes t2
 cases e
 obtain ⟨v3, w3, e, hr3, hw3⟩ := typed_bytes t3
 cases e
 cases n4 with
 | zero => exact t4.elim
 | succ n4 =>
  simp only [Typed, Try.underlying3] at t4
  obtain ⟨z, e, hz⟩ := t4
  cases e
  cases n1 with
  | zero => exact t1.elim
  | succ n1 =>
   simp only [Typed, Try.underlying46] at t1
   obtain ⟨v, es, e, hr, hm, hl⟩ := t1
   cases e
   rw [show Try.prog.cellsOf 9 = 1 from by kernel_rfl] at hr
   obtain ⟨ss, rfl, hs⟩ := strs_row (es := es) fun x hx => by
    have := hl x hx
    cases n1 with
    | zero => exact this.elim
    | succ n1 =>
     simp only [Typed, Try.underlying9] at this
     obtain ⟨s, e, hs⟩ := this
     exact ⟨s, e, hs⟩
   refine law_longest hlo hr (fun s h => ?_) hr2 hw2 hr3 hw3 fun M => Cp_alive (by kernel_rfl)
   have := hs s h
   have : maxLen = 140737488351232 ∨ maxLen ≤ 9223372036854775807 := by first | exact .inr (by decide) | exact .inl rfl
   omega
end Go.Proofs.Ythklpecigkdkiaa.K
