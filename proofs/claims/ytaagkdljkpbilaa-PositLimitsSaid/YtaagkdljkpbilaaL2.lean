/-
  The law PositLimits in the model. Conditions: none.
-/
import Derived.Test.YtaagkdljkpbilaaL1
import Derived.Test.YtaagkdljkpbilaaLitK
import Derived.Test.YtaagkdljkpbilaaSw
import Derived.Test.YtaagkdljkpbilaaBx
set_option linter.unusedSimpArgs false
set_option linter.unusedVariables false
namespace Go.Proofs.Ytaagkdljkpbilaa.K
open Go Ev
set_option maxRecDepth 100000
set_option maxHeartbeats 4000000

mutual
theorem NodeAt.up {M M' : MH} (hn : M.n ≤ M'.n) (k : ∀ id o, id < M.n → M.get id = some o → M'.get id = some o) : ∀ {x : Rx} {id off : Nat}, NodeAt M x id off → NodeAt M' x id off
  | .mk op a b c d kids, id, off, h => by
    unfold NodeAt at h ⊢
    obtain ⟨t, kv, h1, h2, h3, h4, h5, h6⟩ := h
    exact ⟨t, kv, k id _ h2 h1, Nat.lt_of_lt_of_le h2 hn, h3, h4, h5, NodesAt.up hn k h6⟩
theorem NodesAt.up {M M' : MH} (hn : M.n ≤ M'.n) (k : ∀ id o, id < M.n → M.get id = some o → M'.get id = some o) : ∀ {l : List Rx} {id off : Nat}, NodesAt M l id off → NodesAt M' l id off
  | [], id, off, h => trivial
  | x :: r, id, off, h => by
    unfold NodesAt at h ⊢
    exact ⟨NodeAt.up hn k h.1, NodesAt.up hn k h.2⟩
end
/-- What lies apart from one block. -/
theorem apart_up {M M' : MH} {L : Nat} (hn : M.n ≤ M'.n) (k : ∀ id, id < M.n → id ≠ L → M'.get id = M.get id) {l : List Rx} {id off : Nat} (h : NodesAt (M.set L none) l id off) : NodesAt (M'.set L none) l id off := NodesAt.up (M := M.set L none) (M' := M'.set L none) hn (fun id o hid e => by
  by_cases e1 : id = L
  · rw [e1, set_same] at e; cases e
  · rw [set_ne e1] at e ⊢
    rw [k id hid e1]; exact e) h
theorem apart_of {M : MH} {L : Nat} {l : List Rx} {id off : Nat} (h : NodesAt (M.set L none) l id off) : NodesAt M l id off := NodesAt.up (M := M.set L none) (M' := M) (Nat.le_refl _) (fun id o hid e => by
  by_cases e1 : id = L
  · rw [e1, set_same] at e; cases e
  · rw [set_ne e1] at e; exact e) h
def leaf1 : Rx := .mk 1 0 0 0 0 []
/-- A pattern of so many levels. -/
def tower : Nat → Rx
  | 0 => leaf1
  | n + 1 => .mk 6 0 0 0 0 [tower n]
theorem tower_cnt : ∀ n, cnt (tower n) = 1
  | 0 => by unfold tower leaf1; rw [cnt, if_pos rfl]
  | n + 1 => by rw [tower, cnt, if_neg (by decide), if_neg (by decide), if_pos (by decide), cnt1, tower_cnt n]
theorem tower_deep : ∀ n, deep (tower n) = n + 1
  | 0 => by unfold tower leaf1; rw [deep, if_neg (by decide), if_neg (by decide)]
  | n + 1 => by rw [tower, deep, if_neg (by decide), if_pos (by decide), deep1, tower_deep n]
theorem tower_wei : ∀ n, wei (tower n) = 2 + 2 * n
  | 0 => by unfold tower leaf1; rw [wei, weiL]
  | n + 1 => by rw [tower, wei, weiL, weiL, tower_wei n]; omega
theorem flat_cnt : ∀ n, cntL (List.replicate n leaf1) = n
  | 0 => rfl
  | n + 1 => by rw [List.replicate_succ, cntL, flat_cnt n]; unfold leaf1; rw [cnt, if_pos rfl]; omega
theorem flat_deep : ∀ n, deepL (List.replicate n leaf1) ≤ 1
  | 0 => by simp [deepL]
  | n + 1 => by
    rw [List.replicate_succ, deepL]
    have := flat_deep n
    unfold leaf1
    rw [deep, if_neg (by decide), if_neg (by decide)]
    exact Nat.max_le.2 ⟨Nat.le_refl _, this⟩
theorem flat_wei : ∀ n, weiL (List.replicate n leaf1) = 2 * n
  | 0 => rfl
  | n + 1 => by rw [List.replicate_succ, weiL, flat_wei n]; unfold leaf1; rw [wei, weiL]; omega
noncomputable def mksW (M : MH) (sz bytes : Nat) (zs : List MV) (x y : MV) : Option (MV × MH) := match x, y with
  | .i _ (.ofNat l), .i _ (.ofNat c) => bif Nat.ble l c && Nat.ble (bytes * c) 281474976710656 && Nat.ble c 9223372036854775807 && Nat.ble M.lo M.n then some (.sl M.n 0 l 0, M.push (.cs false sz (ofL (zrow zs c) 0))) else none
  | _, _ => none
theorem ev_mks (c : CallM) (f : Fr) (M : MH) (sz bytes : Nat) (zs : List MV) (x y : X) : Iop.ev c f M (.mks sz bytes zs x y) = mksW M sz bytes zs (x.ev f) (y.ev f) := by
  unfold Iop.ev mksW
  rfl
theorem mks_ok {M : MH} {sz bytes : Nat} {zs : List MV} {n : Nat} (hb : bytes * n ≤ 281474976710656) (hn : n ≤ 9223372036854775807) (hlo : M.lo ≤ M.n) : mksW M sz bytes zs (.i .i64 (n : Int)) (.i .i64 (n : Int)) = some (.sl M.n 0 n 0, M.push (.cs false sz (ofL (zrow zs n) 0))) := by
  show (bif Nat.ble n n && Nat.ble (bytes * n) 281474976710656 && Nat.ble n 9223372036854775807 && Nat.ble M.lo M.n then some (MV.sl M.n 0 n 0, M.push (.cs false sz (ofL (zrow zs n) 0))) else none) = _
  rw [ble_t' (Nat.le_refl _), ble_t' hb, ble_t' hn, ble_t' hlo]
  rfl
theorem zrow_flat (zs : List MV) : ∀ n, zrow zs n = (List.replicate n zs).flatten
  | 0 => rfl
  | n + 1 => by rw [zrow_succ, List.replicate_succ, List.flatten_cons, zrow_flat zs n]
def zRe : List MV := [.i .i64 0, .i .u64 0, .i .u64 0, .i .u64 0, .i .u64 0, .nils]
/-- Bare sets, side by side. -/
theorem flat_nodes {M : MH} {K : Nat} {t : T MV} (hg : M.get K = some (.cs false 6 t)) (hK : K < M.n) : ∀ (n off : Nat), (∀ i, i < n → At t (off + i * 6) (rcs 1 0 0 0 0 .nils)) → NodesAt M (List.replicate n leaf1) K off
  | 0, off, h => trivial
  | n + 1, off, h => by
    rw [List.replicate_succ]
    unfold NodesAt
    refine ⟨?_, flat_nodes hg hK n (off + 6) fun i hi => ?_⟩
    · unfold leaf1 NodeAt
      have := h 0 (by omega)
      rw [Nat.zero_mul, Nat.add_zero] at this
      exact ⟨t, .nils, hg, hK, this, rfl, rfl, trivial⟩
    · have := h (i + 1) (by omega)
      rwa [show off + (i + 1) * 6 = off + 6 + i * 6 from by omega] at this
def mixR (n k : Nat) : List (List MV) := List.replicate k (rcs 1 0 0 0 0 .nils) ++ List.replicate (n - k) zRe
theorem mixR_sized (n k : Nat) : Sized 6 (mixR n k) := fun e he => by
  rcases List.mem_append.1 he with h | h
  · rw [(List.mem_replicate.1 h).2]; rfl
  · rw [(List.mem_replicate.1 h).2]; rfl
theorem mixR_at {n k : Nat} (h : k < n) : (mixR n k)[k]? = some zRe := by
  unfold mixR
  rw [List.getElem?_append_right (by rw [List.length_replicate]; exact Nat.le_refl _), List.length_replicate, Nat.sub_self, List.getElem?_replicate, if_pos (by omega)]
theorem mixR_set {n k : Nat} (h : k < n) : (mixR n k).set k (rcs 1 0 0 0 0 .nils) = mixR n (k + 1) := by
  unfold mixR
  rw [List.set_append_right _ _ (by rw [List.length_replicate]; exact Nat.le_refl _), List.length_replicate, Nat.sub_self, show n - k = n - (k + 1) + 1 from by omega, List.replicate_succ, List.set_cons_zero, List.replicate_succ' (n := k), List.append_assoc]
  rfl
theorem law_limits {M : MH} {z : Int} {dp : Bool} (hlo : M.lo ≤ M.n) : Cp fns 5 [.i .i64 z, .b dp] M fun m _ => m = .b true := by
  refine Cp_call (fn := F5) (by kernel_rfl) (Nat.le_of_ble_eq_true rfl) ?_
  show Wp fns B5 (T.set q1 (some (.b dp)) (T.set q0 (some (.i .i64 z)) T.lf)) M _
  unfold B5
  simp (maxSteps := 4000000) (disch := first | omega | assumption | (simp only [bxS, stOk, Nat.reduceBEq, Nat.reduceEqDiff, Nat.reduceAdd]; done) | (simp only [push_lo, push_n, set_lo, set_n]; omega) | (simp only [push_n, set_n, beq_self_eq_true]; done) | (apply has_ofL; simp only [List.length_cons, List.length_nil]; omega) | (apply has_setN; apply has_ofL; simp only [List.length_cons, List.length_nil]; omega)) only [↓bxD, bxP, bxQ, bxQ2, Nat.reduceBEq, reduceCtorEq, Nat.reduceAdd, Nat.reduceSub, Nat.reduceMul, Nat.reduceLeDiff, Nat.reduceLT, R10, R13, R22, R23, R24, R25, R4, R40, R41, R42, R43, R44, R45, R46, R47, R48, R5, R61, R62, R63, R64, R65, R9]
  refine bindP_call (Cp_true (by kernel_rfl)) ?_
  rintro m M2 ⟨rfl, rfl⟩
  by_cases c1 : z < 1
  · have d1 : decide (z < 1) = true := decide_eq_true c1
    simp (maxSteps := 4000000) (disch := first | omega | assumption | (simp only [bxS, stOk, Nat.reduceBEq, Nat.reduceEqDiff, Nat.reduceAdd]; done) | (simp only [push_lo, push_n, set_lo, set_n]; omega) | (simp only [push_n, set_n, beq_self_eq_true]; done) | (apply has_ofL; simp only [List.length_cons, List.length_nil]; omega) | (apply has_setN; apply has_ofL; simp only [List.length_cons, List.length_nil]; omega)) only [↓bxD, bxP, bxQ, bxQ2, Nat.reduceBEq, reduceCtorEq, Nat.reduceAdd, Nat.reduceSub, Nat.reduceMul, Nat.reduceLeDiff, Nat.reduceLT, R10, R13, R22, R23, R24, R25, R4, R40, R41, R42, R43, R44, R45, R46, R47, R48, R5, R61, R62, R63, R64, R65, R9, d1]
  have d1 : decide (z < 1) = false := decide_eq_false c1
  by_cases c2 : 260 < z
  · have d2 : decide (260 < z) = true := decide_eq_true c2
    simp (maxSteps := 4000000) (disch := first | omega | assumption | (simp only [bxS, stOk, Nat.reduceBEq, Nat.reduceEqDiff, Nat.reduceAdd]; done) | (simp only [push_lo, push_n, set_lo, set_n]; omega) | (simp only [push_n, set_n, beq_self_eq_true]; done) | (apply has_ofL; simp only [List.length_cons, List.length_nil]; omega) | (apply has_setN; apply has_ofL; simp only [List.length_cons, List.length_nil]; omega)) only [↓bxD, bxP, bxQ, bxQ2, Nat.reduceBEq, reduceCtorEq, Nat.reduceAdd, Nat.reduceSub, Nat.reduceMul, Nat.reduceLeDiff, Nat.reduceLT, R10, R13, R22, R23, R24, R25, R4, R40, R41, R42, R43, R44, R45, R46, R47, R48, R5, R61, R62, R63, R64, R65, R9, d1, d2]
  have d2 : decide (260 < z) = false := decide_eq_false c2
  obtain ⟨n, rfl⟩ : ∃ n : Nat, z = (n : Int) := ⟨z.toNat, by omega⟩
  have f1 : fillM [(0, 1, MV.i .i64 2)] [.i .i64 0, .i .u64 0, .i .u64 0, .i .u64 0, .i .u64 0, .nils] = some (rcs 2 0 0 0 0 .nils) := rfl
  have f2 : fillM [(0, 1, MV.i .i64 1)] [.i .i64 0, .i .u64 0, .i .u64 0, .i .u64 0, .i .u64 0, .nils] = some (rcs 1 0 0 0 0 .nils) := rfl
  have hcl : ∀ a b c d e kv, MV.cells (.ag (rcs a b c d e kv)) = rcs a b c d e kv := fun _ _ _ _ _ _ => rfl
  have s1 : stOk 6 (.ag (rcs 2 0 0 0 0 .nils)) = true := rfl
  have s2 : stOk 6 (.ag (rcs 1 0 0 0 0 .nils)) = true := rfl
  simp (maxSteps := 4000000) (disch := first | omega | assumption | (simp only [bxS, stOk, Nat.reduceBEq, Nat.reduceEqDiff, Nat.reduceAdd]; done) | (simp only [push_lo, push_n, set_lo, set_n]; omega) | (simp only [push_n, set_n, beq_self_eq_true]; done) | (apply has_ofL; simp only [List.length_cons, List.length_nil]; omega) | (apply has_setN; apply has_ofL; simp only [List.length_cons, List.length_nil]; omega)) only [↓bxD, bxP, bxQ, bxQ2, Nat.reduceBEq, reduceCtorEq, Nat.reduceAdd, Nat.reduceSub, Nat.reduceMul, Nat.reduceLeDiff, Nat.reduceLT, R10, R13, R22, R23, R24, R25, R4, R40, R41, R42, R43, R44, R45, R46, R47, R48, R5, R61, R62, R63, R64, R65, R9, d1, d2]
  show Wp fns K5_8 _ _ _
  unfold K5_8
  simp (maxSteps := 4000000) (disch := first | omega | assumption | (simp only [bxS, stOk, Nat.reduceBEq, Nat.reduceEqDiff, Nat.reduceAdd]; done) | (simp only [push_lo, push_n, set_lo, set_n]; omega) | (simp only [push_n, set_n, beq_self_eq_true]; done) | (apply has_ofL; simp only [List.length_cons, List.length_nil]; omega) | (apply has_setN; apply has_ofL; simp only [List.length_cons, List.length_nil]; omega)) only [↓bxD, bxP, bxQ, bxQ2, Nat.reduceBEq, reduceCtorEq, Nat.reduceAdd, Nat.reduceSub, Nat.reduceMul, Nat.reduceLeDiff, Nat.reduceLT, R10, R13, R22, R23, R24, R25, R4, R40, R41, R42, R43, R44, R45, R46, R47, R48, R5, R61, R62, R63, R64, R65, R9, f1, hcl, push_at]
  generalize hM1 : MH.set _ _ _ = M1
  have g1 : M1.get M2.n = some (.cs false 6 (setN (rcs 2 0 0 0 0 .nils) 0 (ofL zRe 0))) := by rw [← hM1]; exact set_same _ _
  have x1 : Ext M2 M1 := by rw [← hM1]; exact (Ext.push M2 _).set _ (Nat.le_refl _)
  have n1 : M1.n = M2.n + 1 := by rw [← hM1]; rfl
  have l1 := x1.lo
  clear hM1
  have hbz : ∀ l : List MV, hasB (setN l 0 (ofL zRe 0)) 6 0 = true := fun l => has_setN _ _ _ _ (has_ofL _ _ _ (by decide))
  have hb1 := hbz (rcs 2 0 0 0 0 .nils)
  cases dp with
  | true =>
    simp (maxSteps := 4000000) (disch := first | omega | assumption | (simp only [bxS, stOk, Nat.reduceBEq, Nat.reduceEqDiff, Nat.reduceAdd]; done) | (simp only [push_lo, push_n, set_lo, set_n]; omega) | (simp only [push_n, set_n, beq_self_eq_true]; done) | (apply has_ofL; simp only [List.length_cons, List.length_nil]; omega) | (apply has_setN; apply has_ofL; simp only [List.length_cons, List.length_nil]; omega)) only [↓bxD, bxP, bxQ, bxQ2, Nat.reduceBEq, reduceCtorEq, Nat.reduceAdd, Nat.reduceSub, Nat.reduceMul, Nat.reduceLeDiff, Nat.reduceLT, R10, R13, R22, R23, R24, R25, R4, R40, R41, R42, R43, R44, R45, R46, R47, R48, R5, R61, R62, R63, R64, R65, R9, g1, f2, hcl]
    generalize hM3 : MH.set _ _ _ = M3
    have g3 : M3.get M2.n = some (.cs false 6 (setN (rcs 1 0 0 0 0 .nils) 0 (setN (rcs 2 0 0 0 0 .nils) 0 (ofL zRe 0)))) := by rw [← hM3]; exact set_same _ _
    have n3 : M3.n = M1.n := by rw [← hM3]; rfl
    have l3 : M3.lo = M1.lo := by rw [← hM3]; rfl
    clear hM3
    refine Wp_inv (σ := Nat) (fun k f M' => k + 1 ≤ n ∧ X.ev f (.t q0) = .i .i64 (n : Int) ∧ X.ev f (.t q1) = .b true ∧ X.ev f (.t q6) = .p M2.n 0 ∧ X.ev f (.t q7) = .i .i64 ((k + 1 : Nat) : Int) ∧ M3.n ≤ M'.n ∧ M'.lo = M3.lo ∧ ∃ (c : T MV) (op : Int) (kids : List Rx) (kv : MV), M'.get M2.n = some (.cs false 6 c) ∧ At c 0 (rcs op 0 0 0 0 kv) ∧ tower k = .mk op 0 0 0 0 kids ∧ isSl kv = true ∧ slen kv = kids.length ∧ NodesAt (M'.set M2.n none) kids (sid kv) (soff kv)) (fun k => n - k) ?_ 0 ?_
    · rintro k f M' ⟨hk, h0, h1, h6, h7, hn', hl', c, op, kids, kv, hg, hat, ht, k1, k2, k3⟩
      simp only [q0, q1, q6, q7] at h0 h1 h6 h7
      have hgN : Ev.getN c 6 0 = some (rcs op 0 0 0 0 kv) := hat.getN
      have f3 : fillM [(0, 6, .ag (rcs op 0 0 0 0 kv))] [.i .i64 0, .i .u64 0, .i .u64 0, .i .u64 0, .i .u64 0, .nils] = some (rcs op 0 0 0 0 kv) := rfl
      have f4 : fillM [(0, 1, MV.i .i64 6), (5, 1, MV.sl M'.n 0 1 0)] [.i .i64 0, .i .u64 0, .i .u64 0, .i .u64 0, .i .u64 0, .nils] = some (rcs 6 0 0 0 0 (.sl M'.n 0 1 0)) := rfl
      have s3 : stOk 6 (.ag (rcs 6 0 0 0 0 (.sl M'.n 0 1 0))) = true := rfl
      have hb3 : hasB c 6 0 = true := has_at hat (by omega) (by show 0 + 6 ≤ 0 + 6; omega)
      unfold L5_2
      simp (maxSteps := 4000000) (disch := first | omega | assumption | (simp only [bxS, stOk, Nat.reduceBEq, Nat.reduceEqDiff, Nat.reduceAdd]; done) | (simp only [push_lo, push_n, set_lo, set_n]; omega) | (simp only [push_n, set_n, beq_self_eq_true]; done) | (apply has_ofL; simp only [List.length_cons, List.length_nil]; omega) | (apply has_setN; apply has_ofL; simp only [List.length_cons, List.length_nil]; omega)) only [↓bxD, bxP, bxQ, bxQ2, Nat.reduceBEq, reduceCtorEq, Nat.reduceAdd, Nat.reduceSub, Nat.reduceMul, Nat.reduceLeDiff, Nat.reduceLT, R10, R13, R22, R23, R24, R25, R4, R40, R41, R42, R43, R44, R45, R46, R47, R48, R5, R61, R62, R63, R64, R65, R9, h0, h1, h6, h7]
      refine condP_split (fun hlt => ?_) (fun hge => ?_)
      · simp (maxSteps := 4000000) (disch := first | omega | assumption | (simp only [bxS, stOk, Nat.reduceBEq, Nat.reduceEqDiff, Nat.reduceAdd]; done) | (simp only [push_lo, push_n, set_lo, set_n]; omega) | (simp only [push_n, set_n, beq_self_eq_true]; done) | (apply has_ofL; simp only [List.length_cons, List.length_nil]; omega) | (apply has_setN; apply has_ofL; simp only [List.length_cons, List.length_nil]; omega)) only [↓bxD, bxP, bxQ, bxQ2, Nat.reduceBEq, reduceCtorEq, Nat.reduceAdd, Nat.reduceSub, Nat.reduceMul, Nat.reduceLeDiff, Nat.reduceLT, R10, R13, R22, R23, R24, R25, R4, R40, R41, R42, R43, R44, R45, R46, R47, R48, R5, R61, R62, R63, R64, R65, R9, h0, h1, h6, h7]
        show Wp fns K5_1 _ _ _
        unfold K5_1
        simp (maxSteps := 4000000) (disch := first | omega | assumption | (simp only [bxS, stOk, Nat.reduceBEq, Nat.reduceEqDiff, Nat.reduceAdd]; done) | (simp only [push_lo, push_n, set_lo, set_n]; omega) | (simp only [push_n, set_n, beq_self_eq_true]; done) | (apply has_ofL; simp only [List.length_cons, List.length_nil]; omega) | (apply has_setN; apply has_ofL; simp only [List.length_cons, List.length_nil]; omega)) only [↓bxD, bxP, bxQ, bxQ2, Nat.reduceBEq, reduceCtorEq, Nat.reduceAdd, Nat.reduceSub, Nat.reduceMul, Nat.reduceLeDiff, Nat.reduceLT, R10, R13, R22, R23, R24, R25, R4, R40, R41, R42, R43, R44, R45, R46, R47, R48, R5, R61, R62, R63, R64, R65, R9, h0, h1, h6, h7, hg, hgN, map_ag, f3, f4, bslW_some, hcl]
        generalize hM4 : MH.set _ _ _ = M4
        have g4 : M4.get M2.n = some (.cs false 6 (setN (rcs 6 0 0 0 0 (.sl M'.n 0 1 0)) 0 c)) := by rw [← hM4]; exact set_same _ _
        have n4 : M4.n = M'.n + 1 := by rw [← hM4]; rfl
        have l4 : M4.lo = M'.lo := by rw [← hM4]; rfl
        have o4 : ∀ j, j < M'.n → j ≠ M2.n → M4.get j = M'.get j := fun j hj hs => by rw [← hM4, set_ne hs, push_old hj]
        have e4 : M4.get M'.n = some (.cs false 6 (ofL (rcs op 0 0 0 0 kv) 0)) := by rw [← hM4, set_ne (by omega)]; exact push_new _
        clear hM4
        show Wp fns K5_0 _ _ _
        unfold K5_0
        simp (maxSteps := 4000000) (disch := first | omega | assumption | (simp only [bxS, stOk, Nat.reduceBEq, Nat.reduceEqDiff, Nat.reduceAdd]; done) | (simp only [push_lo, push_n, set_lo, set_n]; omega) | (simp only [push_n, set_n, beq_self_eq_true]; done) | (apply has_ofL; simp only [List.length_cons, List.length_nil]; omega) | (apply has_setN; apply has_ofL; simp only [List.length_cons, List.length_nil]; omega)) only [↓bxD, bxP, bxQ, bxQ2, Nat.reduceBEq, reduceCtorEq, Nat.reduceAdd, Nat.reduceSub, Nat.reduceMul, Nat.reduceLeDiff, Nat.reduceLT, R10, R13, R22, R23, R24, R25, R4, R40, R41, R42, R43, R44, R45, R46, R47, R48, R5, R61, R62, R63, R64, R65, R9, h0, h1, h6, h7]
        refine ⟨k + 1, by omega, by omega, rfl, by omega, by omega, _, 6, [tower k], .sl M'.n 0 1 0, g4, at_setN _ _ _, rfl, rfl, rfl, ?_⟩
        show NodeAt _ _ _ _ ∧ True
        refine ⟨?_, trivial⟩
        rw [ht]
        unfold NodeAt
        have hne4 : M'.n ≠ M2.n := by omega
        exact ⟨_, kv, (set_ne (M := M4) (o := none) hne4).trans e4, by show M'.n < M4.n; omega, at_ofL _, k1, k2, apart_up (by omega) o4 k3⟩
      · have hkn : k + 1 = n := by omega
        simp (maxSteps := 4000000) (disch := first | omega | assumption | (simp only [bxS, stOk, Nat.reduceBEq, Nat.reduceEqDiff, Nat.reduceAdd]; done) | (simp only [push_lo, push_n, set_lo, set_n]; omega) | (simp only [push_n, set_n, beq_self_eq_true]; done) | (apply has_ofL; simp only [List.length_cons, List.length_nil]; omega) | (apply has_setN; apply has_ofL; simp only [List.length_cons, List.length_nil]; omega)) only [↓bxD, bxP, bxQ, bxQ2, Nat.reduceBEq, reduceCtorEq, Nat.reduceAdd, Nat.reduceSub, Nat.reduceMul, Nat.reduceLeDiff, Nat.reduceLT, R10, R13, R22, R23, R24, R25, R4, R40, R41, R42, R43, R44, R45, R46, R47, R48, R5, R61, R62, R63, R64, R65, R9, h0, h1, h6, h7]
        show Wp fns K5_7 _ _ _
        have hw := tower_wei k
        have hcn := tower_cnt k
        have hdn := tower_deep k
        rw [ht] at hw hcn hdn
        refine lim_end (n := n) (dp := true) (by omega) ?_ ?_ ?_ hg hat k1 k2 (apart_of k3) (by omega) (fun _ => ⟨by omega, by omega⟩) (fun e => by cases e)
        · simp (maxSteps := 4000000) (disch := first | omega | assumption | (simp only [bxS, stOk, Nat.reduceBEq, Nat.reduceEqDiff, Nat.reduceAdd]; done) | (simp only [push_lo, push_n, set_lo, set_n]; omega) | (simp only [push_n, set_n, beq_self_eq_true]; done) | (apply has_ofL; simp only [List.length_cons, List.length_nil]; omega) | (apply has_setN; apply has_ofL; simp only [List.length_cons, List.length_nil]; omega)) only [↓bxD, bxP, bxQ, bxQ2, Nat.reduceBEq, reduceCtorEq, Nat.reduceAdd, Nat.reduceSub, Nat.reduceMul, Nat.reduceLeDiff, Nat.reduceLT, R10, R13, R22, R23, R24, R25, R4, R40, R41, R42, R43, R44, R45, R46, R47, R48, R5, R61, R62, R63, R64, R65, R9, h0, h1, h6, h7]
        · simp (maxSteps := 4000000) (disch := first | omega | assumption | (simp only [bxS, stOk, Nat.reduceBEq, Nat.reduceEqDiff, Nat.reduceAdd]; done) | (simp only [push_lo, push_n, set_lo, set_n]; omega) | (simp only [push_n, set_n, beq_self_eq_true]; done) | (apply has_ofL; simp only [List.length_cons, List.length_nil]; omega) | (apply has_setN; apply has_ofL; simp only [List.length_cons, List.length_nil]; omega)) only [↓bxD, bxP, bxQ, bxQ2, Nat.reduceBEq, reduceCtorEq, Nat.reduceAdd, Nat.reduceSub, Nat.reduceMul, Nat.reduceLeDiff, Nat.reduceLT, R10, R13, R22, R23, R24, R25, R4, R40, R41, R42, R43, R44, R45, R46, R47, R48, R5, R61, R62, R63, R64, R65, R9, h0, h1, h6, h7]
        · simp (maxSteps := 4000000) (disch := first | omega | assumption | (simp only [bxS, stOk, Nat.reduceBEq, Nat.reduceEqDiff, Nat.reduceAdd]; done) | (simp only [push_lo, push_n, set_lo, set_n]; omega) | (simp only [push_n, set_n, beq_self_eq_true]; done) | (apply has_ofL; simp only [List.length_cons, List.length_nil]; omega) | (apply has_setN; apply has_ofL; simp only [List.length_cons, List.length_nil]; omega)) only [↓bxD, bxP, bxQ, bxQ2, Nat.reduceBEq, reduceCtorEq, Nat.reduceAdd, Nat.reduceSub, Nat.reduceMul, Nat.reduceLeDiff, Nat.reduceLT, R10, R13, R22, R23, R24, R25, R4, R40, R41, R42, R43, R44, R45, R46, R47, R48, R5, R61, R62, R63, R64, R65, R9, h0, h1, h6, h7]
    · refine ⟨by omega, by simp (maxSteps := 4000000) (disch := first | omega | assumption | (simp only [bxS, stOk, Nat.reduceBEq, Nat.reduceEqDiff, Nat.reduceAdd]; done) | (simp only [push_lo, push_n, set_lo, set_n]; omega) | (simp only [push_n, set_n, beq_self_eq_true]; done) | (apply has_ofL; simp only [List.length_cons, List.length_nil]; omega) | (apply has_setN; apply has_ofL; simp only [List.length_cons, List.length_nil]; omega)) only [↓bxD, bxP, bxQ, bxQ2, Nat.reduceBEq, reduceCtorEq, Nat.reduceAdd, Nat.reduceSub, Nat.reduceMul, Nat.reduceLeDiff, Nat.reduceLT, R10, R13, R22, R23, R24, R25, R4, R40, R41, R42, R43, R44, R45, R46, R47, R48, R5, R61, R62, R63, R64, R65, R9], by simp (maxSteps := 4000000) (disch := first | omega | assumption | (simp only [bxS, stOk, Nat.reduceBEq, Nat.reduceEqDiff, Nat.reduceAdd]; done) | (simp only [push_lo, push_n, set_lo, set_n]; omega) | (simp only [push_n, set_n, beq_self_eq_true]; done) | (apply has_ofL; simp only [List.length_cons, List.length_nil]; omega) | (apply has_setN; apply has_ofL; simp only [List.length_cons, List.length_nil]; omega)) only [↓bxD, bxP, bxQ, bxQ2, Nat.reduceBEq, reduceCtorEq, Nat.reduceAdd, Nat.reduceSub, Nat.reduceMul, Nat.reduceLeDiff, Nat.reduceLT, R10, R13, R22, R23, R24, R25, R4, R40, R41, R42, R43, R44, R45, R46, R47, R48, R5, R61, R62, R63, R64, R65, R9], by simp (maxSteps := 4000000) (disch := first | omega | assumption | (simp only [bxS, stOk, Nat.reduceBEq, Nat.reduceEqDiff, Nat.reduceAdd]; done) | (simp only [push_lo, push_n, set_lo, set_n]; omega) | (simp only [push_n, set_n, beq_self_eq_true]; done) | (apply has_ofL; simp only [List.length_cons, List.length_nil]; omega) | (apply has_setN; apply has_ofL; simp only [List.length_cons, List.length_nil]; omega)) only [↓bxD, bxP, bxQ, bxQ2, Nat.reduceBEq, reduceCtorEq, Nat.reduceAdd, Nat.reduceSub, Nat.reduceMul, Nat.reduceLeDiff, Nat.reduceLT, R10, R13, R22, R23, R24, R25, R4, R40, R41, R42, R43, R44, R45, R46, R47, R48, R5, R61, R62, R63, R64, R65, R9], by simp (maxSteps := 4000000) (disch := first | omega | assumption | (simp only [bxS, stOk, Nat.reduceBEq, Nat.reduceEqDiff, Nat.reduceAdd]; done) | (simp only [push_lo, push_n, set_lo, set_n]; omega) | (simp only [push_n, set_n, beq_self_eq_true]; done) | (apply has_ofL; simp only [List.length_cons, List.length_nil]; omega) | (apply has_setN; apply has_ofL; simp only [List.length_cons, List.length_nil]; omega)) only [↓bxD, bxP, bxQ, bxQ2, Nat.reduceBEq, reduceCtorEq, Nat.reduceAdd, Nat.reduceSub, Nat.reduceMul, Nat.reduceLeDiff, Nat.reduceLT, R10, R13, R22, R23, R24, R25, R4, R40, R41, R42, R43, R44, R45, R46, R47, R48, R5, R61, R62, R63, R64, R65, R9] <;> rfl, Nat.le_refl _, rfl, _, 1, [], .nils, g3, at_setN _ _ _, rfl, rfl, rfl, trivial⟩
  | false =>
    have hb2 : hasB (setN (rcs 2 0 0 0 0 .nils) 0 (ofL zRe 0)) 1 5 = true := has_at (at_setN (rcs 2 0 0 0 0 .nils) 0 (ofL zRe 0)) (by omega) (by show 5 + 1 ≤ 0 + 6; omega)
    simp (maxSteps := 4000000) (disch := first | omega | assumption | (simp only [bxS, stOk, Nat.reduceBEq, Nat.reduceEqDiff, Nat.reduceAdd]; done) | (simp only [push_lo, push_n, set_lo, set_n]; omega) | (simp only [push_n, set_n, beq_self_eq_true]; done) | (apply has_ofL; simp only [List.length_cons, List.length_nil]; omega) | (apply has_setN; apply has_ofL; simp only [List.length_cons, List.length_nil]; omega)) only [↓bxD, bxP, bxQ, bxQ2, Nat.reduceBEq, reduceCtorEq, Nat.reduceAdd, Nat.reduceSub, Nat.reduceMul, Nat.reduceLeDiff, Nat.reduceLT, R10, R13, R22, R23, R24, R25, R4, R40, R41, R42, R43, R44, R45, R46, R47, R48, R5, R61, R62, R63, R64, R65, R9, g1, ev_mks, mks_ok, cells_sl]
    generalize hM3 : MH.set _ _ _ = M3
    have g3 : M3.get M2.n = some (.cs false 6 (setN [.sl M1.n 0 n 0] 5 (setN (rcs 2 0 0 0 0 .nils) 0 (ofL zRe 0)))) := by rw [← hM3]; exact set_same _ _
    have n3 : M3.n = M1.n + 1 := by rw [← hM3]; rfl
    have l3 : M3.lo = M1.lo := by rw [← hM3]; rfl
    have e3 : M3.get M1.n = some (.cs false 6 (ofL (zrow zRe n) 0)) := by rw [← hM3, set_ne (by omega)]; exact push_new _
    clear hM3
    have a3 : At (setN [.sl M1.n 0 n 0] 5 (setN (rcs 2 0 0 0 0 .nils) 0 (ofL zRe 0))) 0 (rcs 2 0 0 0 0 (.sl M1.n 0 n 0)) := (at_setN (rcs 2 0 0 0 0 .nils) 0 (ofL zRe 0)).set' 5 _ (by show 5 < 6; omega) rfl
    generalize hc3 : setN [.sl M1.n 0 n 0] 5 (setN (rcs 2 0 0 0 0 .nils) 0 (ofL zRe 0)) = c3 at g3 a3
    clear hc3
    have c35 : cget c3 5 = some (.sl M1.n 0 n 0) := a3 5 _ rfl
    refine Wp_inv (σ := Nat) (fun k f M' => k ≤ n ∧ X.ev f (.t q0) = .i .i64 (n : Int) ∧ X.ev f (.t q1) = .b false ∧ X.ev f (.t q6) = .p M2.n 0 ∧ X.ev f (.t q8) = .i .i64 (k : Int) ∧ M'.n = M3.n ∧ M'.lo = M3.lo ∧ M'.get M2.n = some (.cs false 6 c3) ∧ ∃ c : T MV, M'.get M1.n = some (.cs false 6 c) ∧ At c 0 (mixR n k).flatten) (fun k => n - k) ?_ 0 ?_
    · rintro k f M' ⟨hk, h0, h1, h6, h8, hn', hl', hg, c, hc, hat⟩
      simp only [q0, q1, q6, q8] at h0 h1 h6 h8
      have ixk : ∀ i, i < n → ixV 6 (.sl M1.n 0 n 0) (.i .i64 (i : Int)) = some (.p M1.n (0 + i * 6)) := fun i hi => ix_sl (v := .sl M1.n 0 n 0) rfl hi
      unfold L5_5
      simp (maxSteps := 4000000) (disch := first | omega | assumption | (simp only [bxS, stOk, Nat.reduceBEq, Nat.reduceEqDiff, Nat.reduceAdd]; done) | (simp only [push_lo, push_n, set_lo, set_n]; omega) | (simp only [push_n, set_n, beq_self_eq_true]; done) | (apply has_ofL; simp only [List.length_cons, List.length_nil]; omega) | (apply has_setN; apply has_ofL; simp only [List.length_cons, List.length_nil]; omega)) only [↓bxD, bxP, bxQ, bxQ2, Nat.reduceBEq, reduceCtorEq, Nat.reduceAdd, Nat.reduceSub, Nat.reduceMul, Nat.reduceLeDiff, Nat.reduceLT, R10, R13, R22, R23, R24, R25, R4, R40, R41, R42, R43, R44, R45, R46, R47, R48, R5, R61, R62, R63, R64, R65, R9, h0, h1, h6, h8]
      refine condP_split (fun hlt => ?_) (fun hge => ?_)
      · have hkn : k < n := by omega
        have hk1 := ixk k hkn
        have hak : At c (k * 6) zRe := by
          have := At.elem (mixR_sized n k) hat (i := k) (mixR_at hkn)
          rwa [Nat.zero_add] at this
        have hbk : hasB c 1 (k * 6) = true := has_at hak (by omega) (by show _ ≤ k * 6 + 6; omega)
        simp (maxSteps := 4000000) (disch := first | omega | assumption | (simp only [bxS, stOk, Nat.reduceBEq, Nat.reduceEqDiff, Nat.reduceAdd]; done) | (simp only [push_lo, push_n, set_lo, set_n]; omega) | (simp only [push_n, set_n, beq_self_eq_true]; done) | (apply has_ofL; simp only [List.length_cons, List.length_nil]; omega) | (apply has_setN; apply has_ofL; simp only [List.length_cons, List.length_nil]; omega)) only [↓bxD, bxP, bxQ, bxQ2, Nat.reduceBEq, reduceCtorEq, Nat.reduceAdd, Nat.reduceSub, Nat.reduceMul, Nat.reduceLeDiff, Nat.reduceLT, R10, R13, R22, R23, R24, R25, R4, R40, R41, R42, R43, R44, R45, R46, R47, R48, R5, R61, R62, R63, R64, R65, R9, h0, h1, h6, h8]
        show Wp fns K5_4 _ _ _
        unfold K5_4
        simp (maxSteps := 4000000) (disch := first | omega | assumption | (simp only [bxS, stOk, Nat.reduceBEq, Nat.reduceEqDiff, Nat.reduceAdd]; done) | (simp only [push_lo, push_n, set_lo, set_n]; omega) | (simp only [push_n, set_n, beq_self_eq_true]; done) | (apply has_ofL; simp only [List.length_cons, List.length_nil]; omega) | (apply has_setN; apply has_ofL; simp only [List.length_cons, List.length_nil]; omega)) only [↓bxD, bxP, bxQ, bxQ2, Nat.reduceBEq, reduceCtorEq, Nat.reduceAdd, Nat.reduceSub, Nat.reduceMul, Nat.reduceLeDiff, Nat.reduceLT, R10, R13, R22, R23, R24, R25, R4, R40, R41, R42, R43, R44, R45, R46, R47, R48, R5, R61, R62, R63, R64, R65, R9, h0, h1, h6, h8, hg, c35, hk1, hc, Nat.zero_add, cells_i]
        show Wp fns K5_3 _ _ _
        unfold K5_3
        simp (maxSteps := 4000000) (disch := first | omega | assumption | (simp only [bxS, stOk, Nat.reduceBEq, Nat.reduceEqDiff, Nat.reduceAdd]; done) | (simp only [push_lo, push_n, set_lo, set_n]; omega) | (simp only [push_n, set_n, beq_self_eq_true]; done) | (apply has_ofL; simp only [List.length_cons, List.length_nil]; omega) | (apply has_setN; apply has_ofL; simp only [List.length_cons, List.length_nil]; omega)) only [↓bxD, bxP, bxQ, bxQ2, Nat.reduceBEq, reduceCtorEq, Nat.reduceAdd, Nat.reduceSub, Nat.reduceMul, Nat.reduceLeDiff, Nat.reduceLT, R10, R13, R22, R23, R24, R25, R4, R40, R41, R42, R43, R44, R45, R46, R47, R48, R5, R61, R62, R63, R64, R65, R9, h0, h1, h6, h8]
        refine ⟨k + 1, by omega, by omega, rfl, hn', hl', ?_, _, rfl, ?_⟩
        · exact hg
        · have := At.elem_set (mixR_sized n k) hat (i := k) (o := 0) (e := zRe) (x := .i .i64 1) (mixR_at hkn) (by omega) (k := k * 6) (by omega)
          rw [show zRe.set 0 (.i .i64 1) = rcs 1 0 0 0 0 .nils from rfl, mixR_set hkn] at this
          exact this
      · have hkn : k = n := by omega
        subst hkn
        simp (maxSteps := 4000000) (disch := first | omega | assumption | (simp only [bxS, stOk, Nat.reduceBEq, Nat.reduceEqDiff, Nat.reduceAdd]; done) | (simp only [push_lo, push_n, set_lo, set_n]; omega) | (simp only [push_n, set_n, beq_self_eq_true]; done) | (apply has_ofL; simp only [List.length_cons, List.length_nil]; omega) | (apply has_setN; apply has_ofL; simp only [List.length_cons, List.length_nil]; omega)) only [↓bxD, bxP, bxQ, bxQ2, Nat.reduceBEq, reduceCtorEq, Nat.reduceAdd, Nat.reduceSub, Nat.reduceMul, Nat.reduceLeDiff, Nat.reduceLT, R10, R13, R22, R23, R24, R25, R4, R40, R41, R42, R43, R44, R45, R46, R47, R48, R5, R61, R62, R63, R64, R65, R9, h0, h1, h6, h8]
        show Wp fns K5_7 _ _ _
        have hcn : cnt (.mk 2 0 0 0 0 (List.replicate k leaf1)) = k := by rw [cnt, if_neg (by decide), if_pos (by decide), flat_cnt]
        have hdn : deep (.mk 2 0 0 0 0 (List.replicate k leaf1)) ≤ 200 := by rw [deep, if_pos (by decide)]; have := flat_deep k; omega
        refine lim_end (n := k) (dp := false) (kids := List.replicate k leaf1) (by omega) ?_ ?_ ?_ hg a3 rfl (by rw [List.length_replicate]; rfl) (flat_nodes hc (by omega) k 0 fun i hi => ?_) (by rw [wei, flat_wei]; omega) (fun e => by cases e) (fun _ => ⟨hcn, hdn⟩)
        · simp (maxSteps := 4000000) (disch := first | omega | assumption | (simp only [bxS, stOk, Nat.reduceBEq, Nat.reduceEqDiff, Nat.reduceAdd]; done) | (simp only [push_lo, push_n, set_lo, set_n]; omega) | (simp only [push_n, set_n, beq_self_eq_true]; done) | (apply has_ofL; simp only [List.length_cons, List.length_nil]; omega) | (apply has_setN; apply has_ofL; simp only [List.length_cons, List.length_nil]; omega)) only [↓bxD, bxP, bxQ, bxQ2, Nat.reduceBEq, reduceCtorEq, Nat.reduceAdd, Nat.reduceSub, Nat.reduceMul, Nat.reduceLeDiff, Nat.reduceLT, R10, R13, R22, R23, R24, R25, R4, R40, R41, R42, R43, R44, R45, R46, R47, R48, R5, R61, R62, R63, R64, R65, R9, h0, h1, h6, h8]
        · simp (maxSteps := 4000000) (disch := first | omega | assumption | (simp only [bxS, stOk, Nat.reduceBEq, Nat.reduceEqDiff, Nat.reduceAdd]; done) | (simp only [push_lo, push_n, set_lo, set_n]; omega) | (simp only [push_n, set_n, beq_self_eq_true]; done) | (apply has_ofL; simp only [List.length_cons, List.length_nil]; omega) | (apply has_setN; apply has_ofL; simp only [List.length_cons, List.length_nil]; omega)) only [↓bxD, bxP, bxQ, bxQ2, Nat.reduceBEq, reduceCtorEq, Nat.reduceAdd, Nat.reduceSub, Nat.reduceMul, Nat.reduceLeDiff, Nat.reduceLT, R10, R13, R22, R23, R24, R25, R4, R40, R41, R42, R43, R44, R45, R46, R47, R48, R5, R61, R62, R63, R64, R65, R9, h0, h1, h6, h8]
        · simp (maxSteps := 4000000) (disch := first | omega | assumption | (simp only [bxS, stOk, Nat.reduceBEq, Nat.reduceEqDiff, Nat.reduceAdd]; done) | (simp only [push_lo, push_n, set_lo, set_n]; omega) | (simp only [push_n, set_n, beq_self_eq_true]; done) | (apply has_ofL; simp only [List.length_cons, List.length_nil]; omega) | (apply has_setN; apply has_ofL; simp only [List.length_cons, List.length_nil]; omega)) only [↓bxD, bxP, bxQ, bxQ2, Nat.reduceBEq, reduceCtorEq, Nat.reduceAdd, Nat.reduceSub, Nat.reduceMul, Nat.reduceLeDiff, Nat.reduceLT, R10, R13, R22, R23, R24, R25, R4, R40, R41, R42, R43, R44, R45, R46, R47, R48, R5, R61, R62, R63, R64, R65, R9, h0, h1, h6, h8]
        · have h2 : (mixR k k)[i]? = some (rcs 1 0 0 0 0 .nils) := by
            unfold mixR
            rw [Nat.sub_self, List.replicate_zero, List.append_nil, List.getElem?_replicate, if_pos hi]
          exact At.elem (mixR_sized k k) hat h2
    · refine ⟨by omega, by simp (maxSteps := 4000000) (disch := first | omega | assumption | (simp only [bxS, stOk, Nat.reduceBEq, Nat.reduceEqDiff, Nat.reduceAdd]; done) | (simp only [push_lo, push_n, set_lo, set_n]; omega) | (simp only [push_n, set_n, beq_self_eq_true]; done) | (apply has_ofL; simp only [List.length_cons, List.length_nil]; omega) | (apply has_setN; apply has_ofL; simp only [List.length_cons, List.length_nil]; omega)) only [↓bxD, bxP, bxQ, bxQ2, Nat.reduceBEq, reduceCtorEq, Nat.reduceAdd, Nat.reduceSub, Nat.reduceMul, Nat.reduceLeDiff, Nat.reduceLT, R10, R13, R22, R23, R24, R25, R4, R40, R41, R42, R43, R44, R45, R46, R47, R48, R5, R61, R62, R63, R64, R65, R9], by simp (maxSteps := 4000000) (disch := first | omega | assumption | (simp only [bxS, stOk, Nat.reduceBEq, Nat.reduceEqDiff, Nat.reduceAdd]; done) | (simp only [push_lo, push_n, set_lo, set_n]; omega) | (simp only [push_n, set_n, beq_self_eq_true]; done) | (apply has_ofL; simp only [List.length_cons, List.length_nil]; omega) | (apply has_setN; apply has_ofL; simp only [List.length_cons, List.length_nil]; omega)) only [↓bxD, bxP, bxQ, bxQ2, Nat.reduceBEq, reduceCtorEq, Nat.reduceAdd, Nat.reduceSub, Nat.reduceMul, Nat.reduceLeDiff, Nat.reduceLT, R10, R13, R22, R23, R24, R25, R4, R40, R41, R42, R43, R44, R45, R46, R47, R48, R5, R61, R62, R63, R64, R65, R9], by simp (maxSteps := 4000000) (disch := first | omega | assumption | (simp only [bxS, stOk, Nat.reduceBEq, Nat.reduceEqDiff, Nat.reduceAdd]; done) | (simp only [push_lo, push_n, set_lo, set_n]; omega) | (simp only [push_n, set_n, beq_self_eq_true]; done) | (apply has_ofL; simp only [List.length_cons, List.length_nil]; omega) | (apply has_setN; apply has_ofL; simp only [List.length_cons, List.length_nil]; omega)) only [↓bxD, bxP, bxQ, bxQ2, Nat.reduceBEq, reduceCtorEq, Nat.reduceAdd, Nat.reduceSub, Nat.reduceMul, Nat.reduceLeDiff, Nat.reduceLT, R10, R13, R22, R23, R24, R25, R4, R40, R41, R42, R43, R44, R45, R46, R47, R48, R5, R61, R62, R63, R64, R65, R9], by simp (maxSteps := 4000000) (disch := first | omega | assumption | (simp only [bxS, stOk, Nat.reduceBEq, Nat.reduceEqDiff, Nat.reduceAdd]; done) | (simp only [push_lo, push_n, set_lo, set_n]; omega) | (simp only [push_n, set_n, beq_self_eq_true]; done) | (apply has_ofL; simp only [List.length_cons, List.length_nil]; omega) | (apply has_setN; apply has_ofL; simp only [List.length_cons, List.length_nil]; omega)) only [↓bxD, bxP, bxQ, bxQ2, Nat.reduceBEq, reduceCtorEq, Nat.reduceAdd, Nat.reduceSub, Nat.reduceMul, Nat.reduceLeDiff, Nat.reduceLT, R10, R13, R22, R23, R24, R25, R4, R40, R41, R42, R43, R44, R45, R46, R47, R48, R5, R61, R62, R63, R64, R65, R9] <;> rfl, rfl, rfl, g3, _, e3, ?_⟩
      have := at_ofL (zrow zRe n)
      rw [zrow_flat] at this ⊢
      exact this
end Go.Proofs.Ytaagkdljkpbilaa.K
