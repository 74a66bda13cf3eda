/-
 What the claim leans on, part 4: Lists that are one: the document's comparisons. Conditions: none. The program's sets of kinds: one kind, the lowest bit, the list. Conditions: none. What is made beside the order. Conditions: none. Sets of items in memory: one more put in. Conditions: none. The list of a set of items. Conditions: none. Grammars where the bound of what may be written moves. Conditions: none. What stands behind an item's point: the program's way. Conditions: none. Is it an item? The program's and the document's way. Conditions: none. The document's item and behind. Conditions: none. Slices cut, and rows of these
-/
import Derived.Test.YtpdcahaggacacaaDoorMB3
import Derived.KernelRfl
set_option linter.unusedSimpArgs false
set_option linter.unusedVariables false
namespace Go.Proofs.YtpdcahaggacacaaDoor.K
open Go Ev
set_option maxRecDepth 100000
set_option maxHeartbeats 4000000

theorem same_ints {M : MH} {a b : MV} {x : List Int} (ha : IntRow M a x) (hb : IntRow M b x) (hl : x.length ≤ 1000000000) (hlo : M.lo ≤ M.n) : Cp fns 29 [a, b] M fun m M' => m = .b true ∧ M' = M := by
 obtain ⟨a1, a2⟩ := ha.sl
 obtain ⟨b1, b2⟩ := hb.sl
 refine Cp_call (fn := F29) (by kernel_rfl) (Nat.le_of_ble_eq_true rfl) ?_
 show Wp fns B29 (T.set q1 (some b) (T.set q0 (some a) T.lf)) M _
 unfold B29
 have dn : decide (¬ True) = false := rfl
 simp (disch := try exact dz) only [↓bxD, bA, simprocAttr, a2, b2, decide_false, not_true_eq_false, ne_eq]
 show Wp fns K29_5 _ _ _
 unfold K29_5
 simp (disch := try exact dz) only [↓bxD, bA, simprocAttr]
 refine Wp_inv (σ := Nat) (fun i f M' => M' = M ∧ i ≤ x.length ∧ X.ev f (.t q0) = a ∧ X.ev f (.t q1) = b ∧ X.ev f (.t q5) = .i .i64 (i : Int)) (fun i => x.length - i) ?_ 0 ?_
 ·rintro i f M' ⟨rfl, hi, h0, h1, h5⟩
  simp only [q0, q1, q5] at h0 h1 h5
  unfold L29_3
  by_cases hi' : i < x.length
  ·have d1 : decide ((i : Int) < (x.length : Int)) = true := decide_eq_true (by omega)
   obtain ⟨z, hz⟩ : ∃ z, x[i]? = some z := ⟨_, List.getElem?_eq_getElem hi'⟩
   obtain ⟨ro, s, t, hg, hid, hC⟩ := ha.read hz
   obtain ⟨ro2, s2, t2, hg2, hid2, hC2⟩ := hb.read hz
   simp (disch := try exact dz) only [↓bxD, bA, simprocAttr, h0, h5, a2, d1]
   show Wp fns K29_2 _ _ _
   unfold K29_2
   simp (disch := try exact dz) only [↓bxD, bA, simprocAttr]
   refine Wp_dreg_of (by omega) ?_
   simp (disch := try exact dz) only [↓bxD, bA, simprocAttr, h0, h1, h5, hg, hC, hg2, hC2, decide_false, not_true_eq_false, ne_eq]
   show Wp fns K29_0 _ _ _
   unfold K29_0
   simp (disch := try exact dz) only [↓bxD, bA, simprocAttr]
   show Wp fns K29_1 _ _ _
   unfold K29_1
   simp (disch := try exact dz) only [↓bxD, bA, simprocAttr, h0, h1, h5]
   exact ⟨i + 1, by omega, by omega, rfl⟩
  ·have d1 : decide ((i : Int) < (x.length : Int)) = false := decide_eq_false (by omega)
   simp (disch := try exact dz) only [↓bxD, bA, simprocAttr, h0, h5, a2, d1]
   show Wp fns K29_4 _ _ _
   unfold K29_4
   simp (disch := try exact dz) only [↓bxD, bA, simprocAttr]
 ·exact ⟨rfl, Nat.zero_le _, by simp only [bA, reduceCtorEq], by simp only [bA, reduceCtorEq], by simp only [bA, reduceCtorEq] <;> rfl⟩
theorem only_any {M : MH} {k : Nat} (h : k < 64) : Cp fns 75 [.i .i64 (k : Int)] M fun m M' => m = .i .u64 ((2 ^ k : Nat) : Int) ∧ M' = M := by
 refine Cp_call (fn := F75) (by kernel_rfl) (Nat.le_of_ble_eq_true rfl) ?_
 show Wp fns B75 (T.set q0 (some (.i .i64 (k : Int))) T.lf) M _
 unfold B75
 have hs := shl_u64 k h
 simp (disch := try exact dz) only [↓bxD, bA, simprocAttr, hs]
theorem tz_any {M : MH} {j m : Nat} (hT : TbAt M) (h : 2 ^ j * (2 * m + 1) < 2 ^ 64) : Cp fns 33 [.i .u64 ((2 ^ j * (2 * m + 1) : Nat) : Int)] M fun r M' => r = .i .i64 (j : Int) ∧ M' = M := by
 have hj : j < 64 := by
  refine (Nat.pow_lt_pow_iff_right (a := 2) (by omega)).1 (Nat.lt_of_le_of_lt ?_ h)
  exact Nat.le_mul_of_pos_right _ (by omega)
 have h0 : 0 < 2 ^ j * (2 * m + 1) := Nat.mul_pos (Nat.two_pow_pos j) (by omega)
 have ha := and_neg h
 generalize hx : 2 ^ j * (2 * m + 1) = x at h h0 ha
 have d0 : decide ((x : Int) = 0) = false := decide_eq_false (by omega)
 have e1 := neg_u64 h0 h
 have e2 := and_u64 (a := x) (b := 18446744073709551616 - x) h (by omega)
 have e3 : wrapF .u64 (((2 ^ j : Nat) : Int) * 285870213051353865) = _ := wrap_mul_u64 (2 ^ j) 285870213051353865
 have e4 := shr_u64' (2 ^ j * 285870213051353865 % 18446744073709551616)
 rw [show (18446744073709551616 : Nat) = 2 ^ 64 from by decide] at e2 e1
 rw [ha] at e2
 obtain ⟨t1, t2⟩ := hT
 have hl := tab_low j hj
 have hlt := (List.getElem?_eq_some_iff.1 hl).1
 have hC : (tabZ.map (MV.i .u8))[2 ^ j * 285870213051353865 % 18446744073709551616 / 2 ^ 58 * 1]? = some (.i .u8 (j : Int)) := by rw [Nat.mul_one, List.getElem?_map, hl]; rfl
 generalize 2 ^ j * 285870213051353865 % 18446744073709551616 / 2 ^ 58 = ix at hC e4 hlt
 rw [show tabZ.length = 64 from rfl] at hlt
 have e5 : ixAV 64 1 (.p 0 0) (.i .u64 (ix : Int)) = some (.p 0 (0 + ix * 1)) := ixA_p hlt
 refine Cp_call (fn := F33) (by kernel_rfl) (Nat.le_of_ble_eq_true rfl) ?_
 show Wp fns B33 (T.set q0 (some (.i .u64 (x : Int))) T.lf) M _
 unfold B33
 simp (disch := try exact dz) only [↓bxD, bA, simprocAttr, d0]
 show Wp fns K33_0 _ _ _
 unfold K33_0
 simp (disch := try exact dz) only [↓bxD, bA, simprocAttr, e1, e2, e3, e4, e5, t1, hC]
 have e6 : wrapF .i64 (j : Int) = (j : Int) := wrap_in (by omega) (by omega)
 rw [show cvIV .i64 (.i .u8 (j : Int)) = some (.i .i64 (wrapF .i64 (j : Int))) from rfl, e6]
 simp (disch := try exact dz) only [↓bxD, bA, simprocAttr]
end Go.Proofs.YtpdcahaggacacaaDoor.K
set_option linter.unusedSimpArgs false
set_option linter.unusedVariables false
namespace Go.Proofs.YtpdcahaggacacaaDoor.Ev
open Go
theorem float_new (l : List MV) (f : Fr) (id : Nat) : floatEv (.new l) f id = some (.p id 0, .cs false l.length (ofL l 0)) := rfl
theorem lateL_of {l : List (IOper × DK)} {b : Nat} {os : List (Nat × MO)} (h : (l.any fun p => match p.2 with
 | .ma _ => true
 | _ => false) = false) : lateL l b os = os := by
 unfold lateL
 refine List.filter_eq_self.2 fun x _ => ?_
 rw [Bool.not_eq_true', List.any_eq_false]
 intro p hp
 have := List.any_eq_false.1 h p hp
 cases hk : p.2 <;> simp_all
noncomputable def mksF (sz bytes : Nat) (zs : List MV) (x y : MV) (id : Nat) : Option (MV × MO) := match x, y with
 | .i _ (.ofNat l), .i _ (.ofNat c) => bif Nat.ble l c && Nat.ble (bytes * c) 281474976710656 && Nat.ble c 9223372036854775807 then some (.sl id 0 l 0, .cs false sz (ofL (zrow zs c) 0)) else none
 | _, _ => none
theorem float_mks (sz bytes : Nat) (zs : List MV) (x y : X) (f : Fr) (id : Nat) : floatEv (.mks sz bytes zs x y) f id = mksF sz bytes zs (x.ev f) (y.ev f) id := rfl
theorem mksF_ok {sz bytes : Nat} {zs : List MV} {n id : Nat} {k k' : IntKind} (h1 : bytes * n ≤ 281474976710656) (h2 : n ≤ 9223372036854775807) : mksF sz bytes zs (.i k (n : Int)) (.i k' (n : Int)) id = some (.sl id 0 n 0, .cs false sz (ofL (zrow zs n) 0)) := by
 show (bif Nat.ble n n && Nat.ble (bytes * n) 281474976710656 && Nat.ble n 9223372036854775807 then some (MV.sl id 0 n 0, MO.cs false sz (ofL (zrow zs n) 0)) else none) = _
 rw [ble_t' (Nat.le_refl n), ble_t' h1, ble_t' h2]
 rfl
theorem slot_get {f : Fr} {k : Ky} {id off : Nat} (h : X.ev f (.t k) = .p id off) : T.get f k = some (.p id off) := by
 unfold X.ev at h
 simp only at h
 cases e : f.get k with
 | none => rw [e] at h; cases h
 | some v => rw [e] at h; simp only at h; rw [← h]
theorem push2 {M M2 : MH} {a b : MO} (h : (M.push a).push b = M2) : Ext M M2 ∧ M2.n = M.n + 2 ∧ M2.get M.n = some a ∧ M2.get (M.n + 1) = some b := by
 subst h
 refine ⟨(Ext.push M a).trans (.push _ b), rfl, ?_, push_new (M := M.push a) b⟩
 rw [push_old (by show M.n < M.n + 1; omega)]; exact push_new _
theorem adopt3 {M M2 : MH} {a b c : MO} (h : adoptM [(M.n, a), (M.n + 1, b), (M.n + 2, c)] (M.room 3) = M2) : Ext M M2 ∧ M2.n = M.n + 3 ∧ M2.get M.n = some a ∧ M2.get (M.n + 1) = some b ∧ M2.get (M.n + 2) = some c := by
 subst h
 simp only [adopt_cons, adopt_nil]
 refine ⟨((((Ext.room M 3).set _ (by omega)).set _ (by omega)).set _ (by omega)), rfl, ?_, ?_, ?_⟩
 ·rw [set_ne (by omega), set_ne (by omega)]; exact set_same _ _
 ·rw [set_ne (by omega)]; exact set_same _ _
 ·exact set_same _ _
end Go.Proofs.YtpdcahaggacacaaDoor.Ev
set_option linter.unusedSimpArgs false
set_option linter.unusedVariables false
namespace Go.Proofs.YtpdcahaggacacaaDoor.K
open Go Ev
set_option maxRecDepth 100000
set_option maxHeartbeats 4000000

theorem quo_lit (n : Nat) (k : Nat) (hk : 0 < k) (h : n < 1000000) : binV .quo (.i .i64 (n : Int)) (.i .i64 (k : Int)) = some (.i .i64 ((n / k : Nat) : Int)) := by
 show (bif (IntKind.i64 == IntKind.i64) && !((k : Int) == 0) then some (MV.i .i64 (wrapF .i64 ((n : Int).tdiv (k : Int)))) else none) = _
 rw [← Int.ofNat_tdiv, show ((k : Int) == 0) = false from by rw [beq_eq_false_iff_ne]; omega]
 have := Nat.div_le_self n k
 generalize n / k = d at this ⊢
 rw [wrap_in (by omega) (by omega)]
 rfl
theorem rem_lit (n : Nat) (k : Nat) (hk : 0 < k) (h : n < 1000000) : binV .rem (.i .i64 (n : Int)) (.i .i64 (k : Int)) = some (.i .i64 ((n % k : Nat) : Int)) := by
 show (bif (IntKind.i64 == IntKind.i64) && !((k : Int) == 0) then some (MV.i .i64 ((n : Int).tmod (k : Int))) else none) = _
 rw [← Int.ofNat_tmod, show ((k : Int) == 0) = false from by rw [beq_eq_false_iff_ne]; omega]
 rfl
def wd (N k : Nat) : Nat := (N >>> (64 * k)) % 2 ^ 64
theorem wd_lt (N k : Nat) : wd N k < 18446744073709551616 := Nat.mod_lt _ (by decide)
def st9 (N : Nat) : List MV := [.i .u64 ((wd N 0 : Nat) : Int), .i .u64 ((wd N 1 : Nat) : Int), .i .u64 ((wd N 2 : Nat) : Int), .i .u64 ((wd N 3 : Nat) : Int), .i .u64 ((wd N 4 : Nat) : Int), .i .u64 ((wd N 5 : Nat) : Int), .i .u64 ((wd N 6 : Nat) : Int), .i .u64 ((wd N 7 : Nat) : Int), .i .u64 ((wd N 8 : Nat) : Int)]
theorem wd_bit (N k j : Nat) : (wd N k).testBit j = (decide (j < 64) && N.testBit (64 * k + j)) := by
 unfold wd
 rw [Nat.testBit_mod_two_pow, Nat.testBit_shiftRight]
theorem wd_add (N i k : Nat) : wd (N ||| 2 ^ i) k = if k = i / 64 then wd N k ||| 2 ^ (i % 64) else wd N k := Nat.eq_of_testBit_eq fun j => by
 rw [wd_bit, Nat.testBit_or, Nat.testBit_two_pow]
 split
 ·rename_i e
  rw [Nat.testBit_or, wd_bit, Nat.testBit_two_pow]
  by_cases hj : j < 64
  ·rw [decide_eq_true hj, Bool.true_and, Bool.true_and]
   congr 1
   rw [decide_eq_decide]
   omega
  ·rw [decide_eq_false hj, Bool.false_and, Bool.false_and, Bool.false_or]
   exact (decide_eq_false (by omega)).symm
 ·rename_i e
  rw [wd_bit]
  by_cases hj : j < 64
  ·rw [decide_eq_true hj, Bool.true_and, Bool.true_and, decide_eq_false (by omega), Bool.or_false]
  ·rw [decide_eq_false hj, Bool.false_and, Bool.false_and]
theorem st9_at {N k : Nat} (h : k < 9) : (st9 N)[k]? = some (.i .u64 ((wd N k : Nat) : Int)) := by
 match k, h with
 | 0, _ => rfl
 | 1, _ => rfl
 | 2, _ => rfl
 | 3, _ => rfl
 | 4, _ => rfl
 | 5, _ => rfl
 | 6, _ => rfl
 | 7, _ => rfl
 | 8, _ => rfl
theorem st9_len (N : Nat) : (st9 N).length = 9 := rfl
theorem st9_ext {N : Nat} {l : List MV} (hl : l.length = 9) (h : ∀ k, k < 9 → l[k]? = some (.i .u64 ((wd N k : Nat) : Int))) : l = st9 N := List.ext_getElem? fun k => by
 by_cases hk : k < 9
 ·rw [h k hk, st9_at hk]
 ·rw [List.getElem?_eq_none (by omega), List.getElem?_eq_none (by rw [st9_len]; omega)]
theorem st9_set {N n : Nat} (hn : n < 576) : (st9 N).set (n / 64) (.i .u64 ((wd N (n / 64) ||| 2 ^ (n % 64) : Nat) : Int)) = st9 (N ||| 2 ^ n) := st9_ext (by rw [List.length_set]; rfl) fun k hk => by
 rw [List.getElem?_set, wd_add]
 by_cases e : n / 64 = k
 ·subst e
  rw [if_pos rfl, if_pos (by rw [st9_len]; omega), if_pos rfl]
 ·rw [if_neg e, if_neg (fun e' => e e'.symm), st9_at hk]
def itc (n : Nat) : List MV := [.i .i64 (((n / 9 : Nat) : Int) - 1), .i .i64 ((n % 9 : Nat) : Int)]
theorem add_any {M : MH} {id off sz N n : Nat} {c : T MV} (hg : M.get id = some (.cs false sz c)) (hat : At c off (st9 N)) (hn : n < 576) (hid : M.lo ≤ id) (hlo : M.lo ≤ M.n) (hin : id < M.n) : Cp fns 17 [.p id off, .ag (itc n)] M fun m M' => (∃ c', M'.get id = some (.cs false sz c') ∧ At c' off (st9 (N ||| 2 ^ n)) ∧ ∀ j, (j < off ∨ off + 9 ≤ j) → cget c' j = cget c j) ∧ Chg (fun j => j = id) M M' := by
 refine Cp_call (fn := F17) (by kernel_rfl) (Nat.le_of_ble_eq_true rfl) ?_
 show Wp fns B17 (T.set q1 (some (.ag [.i .i64 (((n / 9 : Nat) : Int) - 1), .i .i64 ((n % 9 : Nat) : Int)])) (T.set q0 (some (.p id off)) T.lf)) M _
 unfold B17
 have hU : ∀ a b, isU (.ag [.i .i64 a, .i .i64 b]) = false := fun _ _ => rfl
 have hcl : ∀ a b, MV.cells (.ag [.i .i64 a, .i .i64 b]) = [.i .i64 a, .i .i64 b] := fun _ _ => rfl
 simp (disch := try exact dz) only [↓bxD, bA, reduceCtorEq, hU, hcl]
 generalize hM1 : M.push _ = M1
 have x1 : Ext M M1 := by rw [← hM1]; exact .push M _
 have g1 : M1.get M.n = some (.cs false 2 (ofL [.i .i64 (((n / 9 : Nat) : Int) - 1), .i .i64 ((n % 9 : Nat) : Int)] 0)) := by rw [← hM1]; exact push_new _
 have n1 : M1.n = M.n + 1 := by rw [← hM1]; rfl
 have l1 := x1.lo
 clear hM1
 have gi : M1.get id = some (.cs false sz c) := (x1.old id hin).trans hg
 have hn0 : Int.negSucc 0 = -1 := rfl
 rw [show (((n / 9 : Nat) : Int) - 1 - Int.negSucc 0) * 9 + ((n % 9 : Nat) : Int) = (n : Int) from by omega]
 refine Wp_dreg_of (by omega) ?_
 have hq : binV .quo (.i .i64 (n : Int)) (.i .i64 64) = some (.i .i64 ((n / 64 : Nat) : Int)) := quo_lit n 64 (by omega) (by omega)
 have hr : binV .rem (.i .i64 (n : Int)) (.i .i64 64) = some (.i .i64 ((n % 64 : Nat) : Int)) := rem_lit n 64 (by omega) (by omega)
 have hs := shl_u64 (n % 64) (by omega)
 have ha : ixAV 9 1 (.p id off) (.i .i64 ((n / 64 : Nat) : Int)) = some (.p id (off + n / 64 * 1)) := ixA_p (by omega)
 have hc : cget c (off + n / 64 * 1) = some (.i .u64 ((wd N (n / 64) : Nat) : Int)) := hat _ _ (by rw [Nat.mul_one]; exact st9_at (by omega))
 have h2 : 2 ^ (n % 64) < 18446744073709551616 := Nat.lt_of_lt_of_le (Nat.pow_lt_pow_right (by omega) (show n % 64 < 64 by omega)) (by decide)
 have ho := or_u64 (a := wd N (n / 64)) (b := 2 ^ (n % 64)) (wd_lt _ _) h2
 have hb : hasB c 1 (off + n / 64 * 1) = true := has_at hat (by omega) (by rw [st9_len]; omega)
 simp (disch := try exact dz) only [↓bxD, bA, simprocAttr, hq, hr, hs, ha, hc, ho, gi]
 refine ⟨_, rfl, ⟨_, set_same _ _, ?_, fun j hj => ?_⟩, ?_⟩
 ·have := hat.set' (k := off + n / 64 * 1) (n / 64) (.i .u64 ((wd N (n / 64) ||| 2 ^ (n % 64) : Nat) : Int)) (by rw [st9_len]; omega) (by omega)
  rwa [st9_set hn] at this
 ·rw [cget_setN, if_neg (by show ¬ (_ ≤ j ∧ j < _ + 1); omega)]
 ·exact (Chg.of x1).set _ (.inl rfl)
def ivs (l : List Nat) : List (List MV) := l.map itc
theorem ivs_len (l : List Nat) : (ivs l).length = l.length := by unfold ivs; rw [List.length_map]
theorem ivs_app (a b : List Nat) : ivs (a ++ b) = ivs a ++ ivs b := by unfold ivs; rw [List.map_append]
theorem ivs_at {l : List Nat} {i n : Nat} (h : l[i]? = some n) : (ivs l)[i]? = some (itc n) := by unfold ivs; rw [List.getElem?_map, h]; rfl
def bN (y : Nat) : List Nat := (List.range 64).filter y.testBit
theorem bN_u (y : Nat) : (bitsU y).map Int.toNat = bN y := by
 unfold bitsU bN
 rw [List.map_map, show Int.toNat ∘ Int.ofNat = id from rfl, List.map_id]
theorem bN_low {j m : Nat} (hj : j < 64) : bN (2 ^ j * (2 * m + 1)) = j :: bN (2 ^ j * (2 * m)) := by
 rw [← bN_u, bitsU_low hj, List.map_cons, bN_u]
 rfl
theorem bN_zero : bN 0 = [] := by rw [← bN_u, bitsU_zero]; rfl
theorem bits_word (N i : Nat) : bitsOf N (64 * (i + 1)) = bitsOf N (64 * i) ++ (bN (wd N i)).map (64 * i + ·) := by
 unfold bitsOf bN
 rw [Nat.mul_succ, List.range_add, List.filter_append]
 congr 1
 rw [List.filter_map]
 congr 1
 refine List.filter_congr fun k hk => ?_
 rw [List.mem_range] at hk
 rw [wd_bit, decide_eq_true hk, Bool.true_and]
 rfl
theorem bitsOf_len (N n : Nat) : (bitsOf N n).length ≤ n := by
 unfold bitsOf
 exact Nat.le_trans (List.length_filter_le _ _) (by rw [List.length_range]; exact Nat.le_refl _)
theorem list_any {M : MH} {N : Nat} (hT : TbAt M) (hlo : M.lo ≤ M.n) : Cp fns 19 [.ag (st9 N)] M fun m M' => Ext M M' ∧ OwnRow M.n M' 2 m (ivs (bitsOf N 576)) := by
 refine Cp_call (fn := F19) (by kernel_rfl) (Nat.le_of_ble_eq_true rfl) ?_
 show Wp fns B19 (T.set q0 (some (.ag (st9 N))) T.lf) M _
 unfold B19
 have hU : ∀ N, isU (.ag (st9 N)) = false := fun _ => rfl
 have hcl : ∀ N, MV.cells (.ag (st9 N)) = st9 N := fun _ => rfl
 have hG : Ev.getN (ofL (st9 N) 0) 9 0 = some (st9 N) := (at_ofL (st9 N)).getN
 simp (disch := try exact dz) only [↓bxD, bA, simprocAttr, hU, hcl, st9_len, hG]
 generalize hM1 : M.push _ = M1
 have x1 : Ext M M1 := by rw [← hM1]; exact .push M _
 have n1 : M1.n = M.n + 1 := by rw [← hM1]; rfl
 have l1 := x1.lo
 clear hM1
 refine Wp_inv (σ := Nat) (fun i f M' => i ≤ 9 ∧ X.ev f (.t q7) = .ag (st9 N) ∧ X.ev f (.t q8) = .i .i64 (i : Int) ∧ Ext M1 M' ∧ ∃ r, X.ev f (.t q3) = r ∧ OwnRow M1.n M' 2 r (ivs (bitsOf N (64 * i)))) (fun i => 9 - i) ?_ 0 ?_
 ·rintro i f M2 ⟨hi, h7, h8, hx, r, h3, hr⟩
  have xn := hx.n
  have xl := hx.lo
  simp only [q3, q7, q8] at h3 h7 h8
  unfold L19_5
  by_cases hi' : i < 9
  ·have d1 : decide ((i : Int) < 9) = true := decide_eq_true (by omega)
   have hix : puM (.ixL 9) (.ag (st9 N)) (.i .i64 (i : Int)) = some (.i .u64 ((wd N i : Nat) : Int)) := by
    show (bif Nat.blt i 9 then (st9 N)[i]? else none) = _
    rw [blt_t hi', st9_at hi']
    rfl
   simp (disch := try exact dz) only [↓bxD, bA, simprocAttr, h8, d1]
   show Wp fns K19_4 _ _ _
   unfold K19_4
   simp (disch := try exact dz) only [↓bxD, bA, simprocAttr, h7, h8, hix]
   refine Wp_inv (σ := Nat × List Nat) (fun p f M' => Ext M1 M' ∧ p.1 < 2 ^ 64 ∧ p.2 ++ (bN p.1).map (64 * i + ·) = bitsOf N (64 * (i + 1)) ∧ X.ev f (.t q4) = .i .i64 (i : Int) ∧ X.ev f (.t q5) = .i .u64 (p.1 : Int) ∧ X.ev f (.t q7) = .ag (st9 N) ∧ X.ev f (.t q8) = .i .i64 (i : Int) ∧ ∃ r, X.ev f (.t q3) = r ∧ OwnRow M1.n M' 2 r (ivs p.2)) (fun p => p.1) ?_ (wd N i, bitsOf N (64 * i)) ?_
   ·rintro ⟨y, l⟩ f M1' ⟨hx, hy, hl, h4, h5, h7, h8, r, h3, hr⟩
    have hxn := hx.n
    have hxl := hx.lo
    simp only at hy hl h5 hr
    simp only [q3, q4, q5, q7, q8] at h3 h4 h5 h7 h8
    unfold L19_2
    by_cases hy0 : y = 0
    ·subst hy0
     rw [bN_zero, List.map_nil, List.append_nil] at hl
     subst hl
     have d1 : decide (((0 : Nat) : Int) ≠ 0) = false := by simp
     have wi : wrapF .i64 ((i : Int) + 1) = ((i + 1 : Nat) : Int) := by rw [wrap_in (by omega) (by omega)]; omega
     simp (disch := try exact dz) only [↓bxD, bA, reduceCtorEq, h5, d1]
     show Wp fns K19_3 _ _ _
     unfold K19_3
     simp (disch := try exact dz) only [↓bxD, bA, simprocAttr, h3, h7, h8, wi]
     exact ⟨i + 1, by omega, by omega, rfl, hx, r, rfl, hr⟩
    ·have d1 : decide ((y : Int) ≠ 0) = true := decide_eq_true (by omega)
     obtain ⟨j, m, hjm⟩ := low_form (x := y) (by omega)
     simp (disch := try exact dz) only [↓bxD, bA, simprocAttr, h5, d1]
     show Wp fns K19_1 _ _ _
     unfold K19_1
     simp (disch := try exact dz) only [↓bxD, bA, simprocAttr, h4, h5]
     have htz := tz_any (M := M1') (j := j) (m := m) ((hT.ext x1).ext hx) (by rw [← hjm]; exact hy)
     rw [← hjm] at htz
     refine bindP_call htz ?_
     rintro w M2 ⟨rfl, rfl⟩
     have hj : j < 64 := by
      refine (Nat.pow_lt_pow_iff_right (a := 2) (by omega)).1 (Nat.lt_of_le_of_lt ?_ hy)
      rw [hjm]
      exact Nat.le_mul_of_pos_right _ (by omega)
     have hlow := bN_low (m := m) hj
     rw [← hjm] at hlow
     have hlen : l.length ≤ 576 := by
      have := bitsOf_len N (64 * (i + 1))
      rw [← hl, List.length_append] at this
      omega
     have hn0 : Int.negSucc 0 = -1 := rfl
     obtain ⟨b, hb⟩ : ∃ b : Nat, b = 64 * i + j := ⟨_, rfl⟩
     have e1 : (i : Int) * 64 + (j : Int) = (b : Int) := by omega
     have hq : binV .quo (.i .i64 (b : Int)) (.i .i64 9) = some (.i .i64 ((b / 9 : Nat) : Int)) := quo_lit b 9 (by omega) (by omega)
     have hrm : binV .rem (.i .i64 (b : Int)) (.i .i64 9) = some (.i .i64 ((b % 9 : Nat) : Int)) := rem_lit b 9 (by omega) (by omega)
     have hb1 : fillM [(0, 1, MV.i .i64 (((b / 9 : Nat) : Int) + Int.negSucc 0)), (1, 1, MV.i .i64 ((b % 9 : Nat) : Int))] [.i .i64 0, .i .i64 0] = some (itc b) := by
      rw [hn0]; rfl
     have hb2 : fillM [(0, 2, MV.ag (itc b))] [.i .i64 0, .i .i64 0] = some (itc b) := rfl
     simp (disch := try exact dz) only [↓bxD, bA, reduceCtorEq, h3, e1, hq, hrm, hb1, hb2]
     have ho := hr.ext (.push M2 (.cs false 2 (ofL (itc b) 0)))
     obtain ⟨v', M3, e1, e2, e3, e4, e5, e6⟩ := app_row (bytes := 16) ho (row_one (M := M2) (sz := 2) (e := itc b) rfl) (by rw [push_lo]; omega) (by rw [push_n]; omega) (fun e he => by rw [List.mem_singleton.1 he]; rfl) (by rw [List.length_singleton, ivs_len]; omega) (by rw [List.length_singleton, ivs_len]; omega)
     refine bindP_of e1 ?_
     have hpred := and_pred j m
     have hw1 := wrap_sub_u64 (a := y) (b := 1) (by omega) hy
     have hw2 := and_u64 (a := y) (b := y - 1) hy (by omega)
     rw [show (y &&& (y - 1)) = 2 ^ j * (2 * m) from by rw [hjm]; exact hpred] at hw2
     rw [show ((1 : Nat) : Int) = 1 from rfl] at hw1
     simp (disch := try exact dz) only [↓bxD, bA, simprocAttr]
     show Wp fns K19_0 _ _ _
     unfold K19_0
     simp (disch := try exact dz) only [↓bxD, bA, simprocAttr, h4, h5, h7, h8, hw1, hw2]
     have hlt : 2 ^ j * (2 * m) < y := by
      have := Nat.two_pow_pos j
      rw [hjm, Nat.mul_add (2 ^ j) (2 * m) 1]
      omega
     refine ⟨(2 ^ j * (2 * m), l ++ [b]), hlt, ⟨by rw [push_n] at e3; omega, by rw [push_lo] at e4; omega, fun id hid => ?_⟩, by simp only; omega, ?_, rfl, v', rfl, ?_⟩
     ·rw [e6 id hid (by rw [push_n]; omega), push_old (by omega), hx.old id (by omega)]
     ·rw [← hl, hlow]
      simp [hb]
     ·rw [ivs_app]
      exact e2
   ·exact ⟨hx, wd_lt N i, (bits_word N i).symm, by simp only [bA, reduceCtorEq], by simp only [bA, reduceCtorEq], by simp only [bA, reduceCtorEq, h7], by simp only [bA, reduceCtorEq, h8], r, by simp only [bA, reduceCtorEq, h3], hr⟩
  ·have hi9 : i = 9 := by omega
   subst hi9
   have d1 : decide (((9 : Nat) : Int) < 9) = false := decide_eq_false (by omega)
   simp (disch := try exact dz) only [↓bxD, bA, h8, d1]
   show Wp fns K19_6 _ _ _
   unfold K19_6
   simp (disch := try exact dz) only [↓bxD, bA, simprocAttr, h3]
   exact ⟨x1.trans hx, hr.le (by omega)⟩
 ·exact ⟨by omega, by simp only [bA, reduceCtorEq], by simp only [bA, reduceCtorEq] <;> rfl, .refl _, .nils, by simp only [bA, reduceCtorEq], OwnRow.nil _ _ _⟩
theorem gr_lift {M : MH} {vr vf vc vk : MV} {es : List (List MV)} {g : Gr} (h : GrAt M vr vf vc vk es g) : GrAt M.lift vr vf vc vk es g := ⟨⟨h.rules.row, h.rules.len, fun i e r h1 h2 => let ⟨v, k1, k2⟩ := h.rules.at_ i e r h1 h2; ⟨v, k1, k2⟩⟩, h.forbid, h.rc, h.kc, h.wf, h.tb⟩
theorem ext_dl {M M' : MH} (h : Ext M.lift M') : Ext M (M'.down M.lo) := ⟨h.n, rfl, h.old⟩
theorem g_len {g : Gr} {vr vf vc vk : MV} : (gcs g vr vf vc vk).length = 7 := rfl
theorem g_N {g : Gr} {vr vf vc vk : MV} : Ev.getN (ofL (gcs g vr vf vc vk) 0) 7 0 = some (gcs g vr vf vc vk) := (at_ofL (gcs g vr vf vc vk)).getN
theorem i_len {n : Nat} : (itc n).length = 2 := rfl
theorem i_N {n : Nat} : Ev.getN (ofL (itc n) 0) 2 0 = some (itc n) := (at_ofL (itc n)).getN
theorem i_0' {n : Nat} : (itc n)[0]? = some (.i .i64 (((n / 9 : Nat) : Int) - 1)) := rfl
theorem i_1' {n : Nat} : (itc n)[1]? = some (.i .i64 ((n % 9 : Nat) : Int)) := rfl
theorem g_0' {g : Gr} {vr vf vc vk : MV} : (gcs g vr vf vc vk)[0]? = some (.i .i64 g.names) := rfl
theorem g_1' {g : Gr} {vr vf vc vk : MV} : (gcs g vr vf vc vk)[1]? = some (.i .i64 g.kinds) := rfl
theorem g_2' {g : Gr} {vr vf vc vk : MV} : (gcs g vr vf vc vk)[2]? = some (.i .i64 g.start) := rfl
theorem g_3' {g : Gr} {vr vf vc vk : MV} : (gcs g vr vf vc vk)[3]? = some vr := rfl
theorem i_st {n : Nat} : stOk 2 (.ag (itc n)) = true := rfl
theorem right_any {M : MH} {g : Gr} {vr vf vc vk : MV} {es : List (List MV)} {q : Nat} {l : List Int} (h : GrAt M vr vf vc vk es g) (hq : rightN g q = some l) (hq1 : q ≤ 1000) (hlo : M.lo ≤ M.n) : Cp fns 31 [.ag (gcs g vr vf vc vk), .i .i64 ((q : Int) - 1)] M fun m M' => Ext M M' ∧ IntRow M' m l := by
 refine Cp_call (fn := F31) (by kernel_rfl) (Nat.le_of_ble_eq_true rfl) ?_
 show Wp fns B31 (T.set q1 (some (.i .i64 ((q : Int) - 1))) (T.set q0 (some (.ag (gcs g vr vf vc vk))) T.lf)) M _
 unfold B31
 have hn0 : Int.negSucc 0 = -1 := rfl
 simp (disch := try exact dz) only [↓bxD, bA, simprocAttr, g_len]
 generalize hM1 : M.push _ = M1
 have x1 : Ext M M1 := by rw [← hM1]; exact .push M _
 have g1 : M1.get M.n = some (.cs false 7 (ofL (gcs g vr vf vc vk) 0)) := by rw [← hM1]; exact push_new _
 have n1 : M1.n = M.n + 1 := by rw [← hM1]; rfl
 have l1 := x1.lo
 clear hM1
 unfold rightN at hq
 by_cases hq0 : q = 0
 ·rw [if_pos hq0] at hq
  injection hq with hq
  subst hq hq0
  have d0 : decide (((0 : Nat) : Int) - 1 = Int.negSucc 0) = true := decide_eq_true (by omega)
  have ff : fillM [(0, 1, MV.i .i64 g.start)] [.i .i64 0] = some [.i .i64 g.start] := rfl
  trace_state
  simp (disch := try exact dz) only [↓bxD, bA, simprocAttr, g1, g_2', ff]
  trace_state
  exact ⟨x1.trans (.push M1 _), row_one (M := M1) rfl⟩
 ·rw [if_neg hq0] at hq
  obtain ⟨r, hr, rfl⟩ := Option.map_eq_some_iff.1 hq
  have d0 : decide ((q : Int) - 1 = Int.negSucc 0) = false := decide_eq_false (by omega)
  obtain ⟨i, rfl⟩ : ∃ i, q = i + 1 := ⟨q - 1, by omega⟩
  rw [show i + 1 - 1 = i from rfl] at hr
  have ei : ((i + 1 : Nat) : Int) - 1 = (i : Int) := by omega
  rw [ei] at d0 ⊢
  obtain ⟨uu, hu, hur⟩ := h.rules.get hr
  obtain ⟨hr1, hr2⟩ := h.rules.row.sl
  have hil := (List.getElem?_eq_some_iff.1 hr).1
  rw [h.rules.len] at hr2
  obtain ⟨ro, s, t, hg, hid, hat⟩ := (h.ext x1).rules.row.read hu
  have c1 : cget t (soff vr + i * 3 + 1) = some uu := hat 1 _ rfl
  simp (disch := try exact dz) only [↓bxD, bA, simprocAttr, decide_false]
  show Wp fns K31_0 _ _ _
  unfold K31_0
  simp (disch := try exact dz) only [↓bxD, bA, simprocAttr, g1, g_3', hg, c1]
  exact ⟨x1, hur.ext x1⟩
theorem behind_any {M : MH} {g : Gr} {vr vf vc vk : MV} {es : List (List MV)} {n : Nat} (h : GrAt M vr vf vc vk es g) (hn : IsN g n) (h8 : n < 1000) (hlo : M.lo ≤ M.n) : Cp fns 32 [.ag (gcs g vr vf vc vk), .ag (itc n)] M fun m M' => Ext M M' ∧ m = .tp [.i .i64 ((behN g n).getD 0), .b (behN g n).isSome] := by
 obtain ⟨l, hq, hl⟩ := hn
 refine Cp_call (fn := F32) (by kernel_rfl) (Nat.le_of_ble_eq_true rfl) ?_
 show Wp fns B32 (T.set q1 (some (.ag (itc n))) (T.set q0 (some (.ag (gcs g vr vf vc vk))) T.lf)) M _
 unfold B32
 simp (disch := try exact dz) only [↓bxD, bA, simprocAttr, g_len, i_len]
 generalize hM1 : (M.push _).push _ = M1
 obtain ⟨x1, n1, g1, g2⟩ := push2 hM1
 have l1 := x1.lo
 simp (disch := try exact dz) only [↓bxD, bA, simprocAttr, g2, g_N, i_0']
 refine bindP_call (right_any (h.ext x1) hq (by omega) (by omega)) ?_
 rintro m M2 ⟨x2, hm⟩
 obtain ⟨m1, m2⟩ := hm.sl
 have n2 := x2.n
 have l2 := x2.lo
 have g2' := (x2.old _ (by omega)).trans g2
 have hbe : behN g n = l[n % 9]? := by unfold behN; rw [hq]; rfl
 rw [hbe]
 by_cases he : n % 9 = l.length
 ·have d0 : decide (((n % 9 : Nat) : Int) = (l.length : Int)) = true := decide_eq_true (by rw [he])
  simp (disch := try exact dz) only [↓bxD, bA, simprocAttr, g2', i_1', m2, d0]
  rw [List.getElem?_eq_none (by omega)]
  exact ⟨x1.trans x2, rfl⟩
 ·have d0 : decide (((n % 9 : Nat) : Int) = (l.length : Int)) = false := decide_eq_false (by omega)
  have hlt : n % 9 < l.length := by omega
  obtain ⟨z, hz⟩ : ∃ z, l[n % 9]? = some z := ⟨_, List.getElem?_eq_getElem hlt⟩
  obtain ⟨ro, s, t, hg, hid, hC⟩ := hm.read hz
  rw [Nat.mul_one] at hC
  simp (disch := try exact dz) only [↓bxD, bA, simprocAttr, g2', i_1', m2, d0]
  show Wp fns K32_0 _ _ _
  unfold K32_0
  simp (disch := try exact dz) only [↓bxD, bA, simprocAttr, g2', i_1', hg, hC, Nat.mul_one]
  rw [hz]
  exact ⟨x1.trans x2, rfl⟩
def itemO (g : Gr) (r a : Int) : Option Nat := if r < -1 ∨ a < 0 then none else match rightN g (r + 1).toNat with
 | some l => if a ≤ l.length then some ((r + 1) * 9 + a).toNat else none
 | none => none
theorem itemO_some {g : Gr} (hg : GrOk g) {r a : Int} {n : Nat} (h : itemO g r a = some n) : IsN g n ∧ itc n = [.i .i64 r, .i .i64 a] := by
 unfold itemO at h
 split at h
 ·cases h
 ·rename_i h1
  cases hq : rightN g (r + 1).toNat with
  | none => rw [hq] at h; cases h
  | some l =>
   rw [hq] at h
   simp only at h
   split at h
   ·rename_i h2
    injection h with h
    have h8 := (right_len hg hq).1
    have e1 : n / 9 = (r + 1).toNat := by omega
    have e2 : ((n % 9 : Nat) : Int) = a := by omega
    refine ⟨⟨l, by rw [e1]; exact hq, by omega⟩, ?_⟩
    unfold itc
    rw [e1, e2]
    congr 2
    omega
   ·cases h
theorem itemO_neg {g : Gr} {r a : Int} (h : r < -1) : itemO g r a = none := by unfold itemO; rw [if_pos (.inl h)]
theorem itemO_at {g : Gr} {r a : Int} (h : a < 0) : itemO g r a = none := by unfold itemO; rw [if_pos (.inr h)]
theorem itemO_big {g : Gr} {r a : Int} (h0 : 0 ≤ r) (h : (g.rules.length : Int) ≤ r) : itemO g r a = none := by
 unfold itemO
 split
 ·rfl
 ·unfold rightN
  rw [if_neg (by omega), List.getElem?_eq_none (by omega)]
  rfl
theorem itemO_of {g : Gr} {r a : Int} {l : List Int} (h0 : -1 ≤ r) (h1 : 0 ≤ a) (hq : rightN g (r + 1).toNat = some l) : (itemO g r a).isSome = decide (a ≤ (l.length : Int)) := by
 unfold itemO
 rw [if_neg (by omega), hq]
 simp only
 by_cases h : a ≤ (l.length : Int)
 ·rw [if_pos h, decide_eq_true h]; rfl
 ·rw [if_neg h, decide_eq_false h]; rfl
theorem itemO_goal {g : Gr} {a : Int} : (itemO g (-1) a).isSome = (decide (a = 0) || decide (a = 1)) := by
 unfold itemO
 by_cases h : a < 0
 ·rw [if_pos (.inr h), decide_eq_false (by omega), decide_eq_false (by omega)]; rfl
 ·rw [if_neg (by omega)]
  show (match rightN g 0 with | some l => if a ≤ (l.length : Int) then some _ else none | none => none).isSome = _
  rw [show rightN g 0 = some [g.start] from rfl]
  simp only [List.length_cons, List.length_nil]
  by_cases h1 : a ≤ 1
  ·rw [if_pos (by omega)]
   rcases (show a = 0 ∨ a = 1 by omega) with rfl | rfl <;> rfl
  ·rw [if_neg (by omega), decide_eq_false (by omega), decide_eq_false (by omega)]; rfl
theorem right_rule {g : Gr} {i : Nat} {r : Int × List Int × Int} (h : g.rules[i]? = some r) : rightN g (i + 1) = some r.2.1 := by
 unfold rightN
 rw [if_neg (by omega), show i + 1 - 1 = i from rfl, h]
 rfl
theorem item_any {M : MH} {g : Gr} {vr vf vc vk : MV} {es : List (List MV)} {r a : Int} (h : GrAt M vr vf vc vk es g) (h60 : g.rules.length ≤ 60) (hlo : M.lo ≤ M.n) : Cp fns 21 [.ag (gcs g vr vf vc vk), .ag [.i .i64 r, .i .i64 a]] M fun m M' => Ext M M' ∧ m = .b (itemO g r a).isSome := by
 refine Cp_call (fn := F21) (by kernel_rfl) (Nat.le_of_ble_eq_true rfl) ?_
 show Wp fns B21 (T.set q1 (some (.ag [.i .i64 r, .i .i64 a])) (T.set q0 (some (.ag (gcs g vr vf vc vk))) T.lf)) M _
 unfold B21
 have hU : ∀ a b, isU (.ag [.i .i64 a, .i .i64 b]) = false := fun _ _ => rfl
 have hcl : ∀ a b, MV.cells (.ag [.i .i64 a, .i .i64 b]) = [.i .i64 a, .i .i64 b] := fun _ _ => rfl
 have hn0 : Int.negSucc 0 = -1 := rfl
 simp (disch := try exact dz) only [↓bxD, bA, simprocAttr, g_len, hU, hcl]
 generalize hM1 : (M.push _).push _ = M1
 obtain ⟨x1, n1, g1, g2⟩ := push2 hM1
 have l1 := x1.lo
 obtain ⟨hr1, hr2⟩ := h.rules.row.sl
 rw [h.rules.len] at hr2
 by_cases c0 : r = -1
 ·subst c0
  have d0 : decide ((-1 : Int) = Int.negSucc 0) = true := rfl
  by_cases c1 : a = 0
  ·subst c1
   simp (disch := try exact dz) only [↓bxD, bA, simprocAttr, g2]
   rw [itemO_goal]
   exact ⟨x1, rfl⟩
  ·have d1 : decide (a = 0) = false := decide_eq_false c1
   simp (disch := try exact dz) only [↓bxD, bA, simprocAttr, g2, d1]
   rw [itemO_goal, d1, Bool.false_or]
   exact ⟨x1, rfl⟩
 have d0 : decide (r = Int.negSucc 0) = false := decide_eq_false (by omega)
 by_cases c1 : r < 0
 ·have d1 : decide (0 ≤ r) = false := decide_eq_false (by omega)
  simp (disch := try exact dz) only [↓bxD, bA, reduceCtorEq, g2, d0]
  show Wp fns K21_0 _ _ _
  unfold K21_0
  simp (disch := try exact dz) only [↓bxD, bA, simprocAttr]
  refine Wp_dreg_of (by omega) ?_
  simp (disch := try exact dz) only [↓bxD, bA, simprocAttr, g2, d1]
  show Wp fns IC.ret _ _ _
  simp (disch := try exact dz) only [↓bxD, bA, simprocAttr]
  rw [itemO_neg (by omega)]
  exact ⟨x1, rfl⟩
 have d1 : decide (0 ≤ r) = true := decide_eq_true (by omega)
 by_cases c2 : r < (g.rules.length : Int)
 ·have d2 : decide (r < (g.rules.length : Int)) = true := decide_eq_true c2
  by_cases c3 : a < 0
  ·have d3 : decide (0 ≤ a) = false := decide_eq_false (by omega)
   simp (disch := try exact dz) only [↓bxD, bA, reduceCtorEq, g2, d0]
   show Wp fns K21_0 _ _ _
   unfold K21_0
   simp (disch := try exact dz) only [↓bxD, bA, simprocAttr]
   refine Wp_dreg_of (by omega) ?_
   simp (disch := try exact dz) only [↓bxD, bA, simprocAttr, g1, g2, d1, d2, d3, g_3', hr2]
   show Wp fns IC.ret _ _ _
   simp (disch := try exact dz) only [↓bxD, bA, simprocAttr]
   rw [itemO_at c3]
   exact ⟨x1, rfl⟩
  ·have d3 : decide (0 ≤ a) = true := decide_eq_true (by omega)
   obtain ⟨i, rfl⟩ : ∃ i : Nat, r = i := ⟨r.toNat, by omega⟩
   have hil : i < g.rules.length := by omega
   obtain ⟨x, hr⟩ : ∃ x, g.rules[i]? = some x := ⟨_, List.getElem?_eq_getElem hil⟩
   have hio := itemO_of (a := a) (g := g) (r := (i : Int)) (by omega) (by omega) (by rw [show ((i : Int) + 1).toNat = i + 1 from by omega]; exact right_rule hr)
   obtain ⟨uu, hu, hur⟩ := h.rules.get hr
   obtain ⟨u1, u2⟩ := hur.sl
   obtain ⟨ro, s, t, hg, hid, hat⟩ := (h.ext x1).rules.row.read hu
   have e1 : cget t (soff vr + i * 3 + 1) = some uu := hat 1 _ rfl
   simp (disch := try exact dz) only [↓bxD, bA, simprocAttr, g2, decide_false]
   show Wp fns K21_0 _ _ _
   unfold K21_0
   simp (disch := try exact dz) only [↓bxD, bA, simprocAttr]
   refine Wp_dreg_of (by omega) ?_
   simp (disch := try exact dz) only [↓bxD, bA, simprocAttr, g1, g2, d1, d2, d3, g_3', hr2, hg, e1, u2]
   show Wp fns IC.ret _ _ _
   simp (disch := try exact dz) only [↓bxD, bA, simprocAttr]
   rw [hio]
   exact ⟨x1, rfl⟩
 ·have d2 : decide (r < (g.rules.length : Int)) = false := decide_eq_false c2
  simp (disch := try exact dz) only [↓bxD, bA, reduceCtorEq, g2, d0]
  show Wp fns K21_0 _ _ _
  unfold K21_0
  simp (disch := try exact dz) only [↓bxD, bA, simprocAttr]
  refine Wp_dreg_of (by omega) ?_
  simp (disch := try exact dz) only [↓bxD, bA, simprocAttr, g1, g2, d1, d2, g_3', hr2]
  show Wp fns IC.ret _ _ _
  simp (disch := try exact dz) only [↓bxD, bA, simprocAttr]
  rw [itemO_big (by omega) (by omega)]
  exact ⟨x1, rfl⟩
theorem rbehind_any {M : MH} {g : Gr} {vr vf vc vk : MV} {es : List (List MV)} {n : Nat} (h : GrAt M vr vf vc vk es g) (hn : IsN g n) (h8 : n < 1000) (h60 : g.rules.length ≤ 60) (hlo : M.lo ≤ M.n) : Cp fns 23 [.ag (gcs g vr vf vc vk), .ag (itc n)] M fun m M' => Ext M M' ∧ ∃ z, m = .tp [.i .i64 z, .b (behN g n).isSome] ∧ ∀ s, behN g n = some s → z = s := by
 obtain ⟨l, hq, hl⟩ := hn
 have hbe : behN g n = l[n % 9]? := by unfold behN; rw [hq]; rfl
 refine Cp_call (fn := F23) (by kernel_rfl) (Nat.le_of_ble_eq_true rfl) ?_
 show Wp fns B23 (T.set q1 (some (.ag (itc n))) (T.set q0 (some (.ag (gcs g vr vf vc vk))) T.lf)) M _
 unfold B23
 have hn0 : Int.negSucc 0 = -1 := rfl
 simp (disch := try exact dz) only [↓bxD, bA, simprocAttr, g_len, i_len]
 generalize hM1 : (M.push _).push _ = M1
 obtain ⟨x1, n1, g1, g2⟩ := push2 hM1
 have l1 := x1.lo
 obtain ⟨hr1, hr2⟩ := h.rules.row.sl
 rw [h.rules.len] at hr2
 by_cases c0 : n / 9 = 0
 ·rw [c0] at hq
  injection hq with hq
  subst hq
  have d0 : decide (((n / 9 : Nat) : Int) - 1 = Int.negSucc 0) = true := decide_eq_true (by omega)
  simp (disch := try exact dz) only [↓bxD, bA, reduceCtorEq, g2, d0, i_0']
  refine Wp_dreg_of (by omega) ?_
  simp (disch := try exact dz) only [↓bxD, bA, simprocAttr, g1, g2, i_1', g_2']
  show Wp fns IC.ret _ _ _
  simp (disch := try exact dz) only [↓bxD, bA, simprocAttr]
  refine ⟨x1, g.start, ?_, ?_⟩
  ·rw [hbe]
   by_cases e0 : n % 9 = 0
   ·rw [e0]; rfl
   ·rw [List.getElem?_eq_none (by simp only [List.length_cons, List.length_nil]; omega), decide_eq_false (by omega)]; rfl
  ·intro s hs
   rw [hbe] at hs
   by_cases e0 : n % 9 = 0
   ·rw [e0] at hs; injection hs
   ·rw [List.getElem?_eq_none (by simp only [List.length_cons, List.length_nil]; omega)] at hs; cases hs
 ·obtain ⟨i, hi⟩ : ∃ i, n / 9 = i + 1 := ⟨n / 9 - 1, by omega⟩
  rw [hi] at hq
  have ei : ((n / 9 : Nat) : Int) - 1 = (i : Int) := by omega
  unfold rightN at hq
  rw [if_neg (by omega)] at hq
  obtain ⟨r, hr, rfl⟩ := Option.map_eq_some_iff.1 hq
  rw [show i + 1 - 1 = i from rfl] at hr
  have hil := (List.getElem?_eq_some_iff.1 hr).1
  obtain ⟨uu, hu, hur⟩ := h.rules.get hr
  obtain ⟨u1, u2⟩ := hur.sl
  obtain ⟨ro, s, t, hg, hid, hat⟩ := (h.ext x1).rules.row.read hu
  have e1 : cget t (soff vr + i * 3 + 1) = some uu := hat 1 _ rfl
  have d0 : decide ((i : Int) = Int.negSucc 0) = false := decide_eq_false (by omega)
  have d1 : decide ((i : Int) < 0) = false := decide_eq_false (by omega)
  have d2 : decide ((g.rules.length : Int) ≤ (i : Int)) = false := decide_eq_false (by omega)
  have d3 : decide (((n % 9 : Nat) : Int) < 0) = false := decide_eq_false (by omega)
  rw [hbe]
  by_cases he : n % 9 = r.2.1.length
  ·have d4 : decide ((r.2.1.length : Int) ≤ ((n % 9 : Nat) : Int)) = true := decide_eq_true (by omega)
   simp (disch := try exact dz) only [↓bxD, bA, simprocAttr, g2, ei, decide_false, i_0']
   show Wp fns K23_2 _ _ _
   unfold K23_2
   simp (disch := try exact dz) only [↓bxD, bA, simprocAttr]
   refine Wp_dreg_of (by omega) ?_
   simp (disch := try exact dz) only [↓bxD, bA, simprocAttr, g1, g2, ei, d1, d2, d3, d4, i_0', i_1', g_3', hr2, hg, e1, u2]
   show Wp fns (IC.seq K23_0 K23_1) _ _ _
   unfold K23_0
   simp (disch := try exact dz) only [↓bxD, bA, simprocAttr]
   rw [List.getElem?_eq_none (by omega)]
   exact ⟨x1, 0, rfl, fun s hs => by cases hs⟩
  ·have hlt : n % 9 < r.2.1.length := by omega
   have d4 : decide ((r.2.1.length : Int) ≤ ((n % 9 : Nat) : Int)) = false := decide_eq_false (by omega)
   obtain ⟨z, hz⟩ : ∃ z, r.2.1[n % 9]? = some z := ⟨_, List.getElem?_eq_getElem hlt⟩
   obtain ⟨ro', s', t', hg', hid', hC⟩ := (hur.ext x1).read hz
   rw [Nat.mul_one] at hC
   simp (disch := try exact dz) only [↓bxD, bA, simprocAttr, g2, ei, decide_false, i_0']
   show Wp fns K23_2 _ _ _
   unfold K23_2
   simp (disch := try exact dz) only [↓bxD, bA, simprocAttr]
   refine Wp_dreg_of (by omega) ?_
   simp (disch := try exact dz) only [↓bxD, bA, simprocAttr, g1, g2, ei, d1, d2, d3, d4, i_0', i_1', g_3', hr2, hg, e1, u2]
   show Wp fns (IC.seq K23_0 K23_1) _ _ _
   unfold K23_0
   simp (disch := try exact dz) only [↓bxD, bA, simprocAttr]
   show Wp fns K23_1 _ _ _
   unfold K23_1
   simp (disch := try exact dz) only [↓bxD, bA, simprocAttr]
   refine Wp_dreg_of (by omega) ?_
   simp (disch := try exact dz) only [↓bxD, bA, simprocAttr, g1, g2, ei, i_0', i_1', g_3', hg, e1, hg', hC, Nat.mul_one]
   show Wp fns IC.ret _ _ _
   simp (disch := try exact dz) only [↓bxD, bA, simprocAttr]
   rw [hz]
   exact ⟨x1, z, rfl, fun s hs => by injection hs⟩
def cutLo (sz l : Nat) : MV → MV
 | .sl id off n e => .sl id (off + l * sz) (n - l) (e + l)
 | v => v
def cutHi (h : Nat) : MV → MV
 | .sl id off _ e => .sl id off h e
 | v => v
theorem cutM_hi {v : MV} {sz h : Nat} {k : IntKind} (hv : isSl v = true) (hl : h ≤ slen v) : cutM sz v none (some (.i k (h : Int))) = some (cutHi h v) := by
 cases v <;> first | cases hv | skip
 ·simp [slen] at hl; subst hl; rfl
 ·rename_i id off n e
  show (bif Nat.ble 0 h && Nat.ble h n then some (MV.sl id (off + 0 * sz) (h - 0) (e + 0)) else none) = _
  rw [ble_t' (Nat.zero_le _), ble_t' (show h ≤ n from hl)]
  simp [cutHi]
theorem cutM_lo {v : MV} {sz l : Nat} {k : IntKind} (hv : isSl v = true) (hl : l ≤ slen v) : cutM sz v (some (.i k (l : Int))) none = some (cutLo sz l v) := by
 cases v <;> first | cases hv | skip
 ·simp [slen] at hl; subst hl; rfl
 ·rename_i id off n e
  show (bif Nat.ble l n && Nat.ble n n then some (MV.sl id (off + l * sz) (n - l) (e + l)) else none) = _
  rw [ble_t' (Nat.le_refl _), ble_t' (show l ≤ n from hl)]
  rfl
theorem row_take {M : MH} {v : MV} {sz : Nat} {es : List (List MV)} {i : Nat} (h : RowAt M sz v es) (hi : i ≤ es.length) : RowAt M sz (cutHi i v) (es.take i) := by
 obtain ⟨hs, ⟨rfl, h2⟩ | ⟨id, off, ed, ro, s, c, rfl, h2, h3, h4⟩⟩ := h
 ·rw [h2]; exact ⟨fun x hx => (by simp at hx), .inl ⟨rfl, by simp⟩⟩
 ·refine ⟨fun x hx => hs x (List.mem_of_mem_take hx), .inr ⟨id, off, ed, ro, s, c, ?_, h2, h3, ?_⟩⟩
  ·show MV.sl id off i ed = _
   rw [List.length_take, Nat.min_eq_left (by omega)]
  ·rw [← List.take_append_drop i es, List.flatten_append] at h4
   exact h4.left
theorem row_skip {M : MH} {v : MV} {sz : Nat} {es : List (List MV)} {i : Nat} (h : RowAt M sz v es) (hi : i ≤ es.length) : RowAt M sz (cutLo sz i v) (es.drop i) := by
 obtain ⟨hs, ⟨rfl, h2⟩ | ⟨id, off, ed, ro, s, c, rfl, h2, h3, h4⟩⟩ := h
 ·rw [h2]; exact ⟨fun x hx => (by simp at hx), .inl ⟨rfl, by simp⟩⟩
 ·refine ⟨fun x hx => hs x (List.mem_of_mem_drop hx), .inr ⟨id, off + i * sz, ed + i, ro, s, c, ?_, h2, h3, ?_⟩⟩
  ·show MV.sl id (off + i * sz) (es.length - i) (ed + i) = _
   rw [List.length_drop]
  ·have hz : (es.take i).flatten.length = i * sz := by
    rw [Sized.flat (sz := sz) (fun x hx => hs x (List.mem_of_mem_take hx)), List.length_take, Nat.min_eq_left (by omega)]
   rw [← List.take_append_drop i es, List.flatten_append] at h4
   have := h4.right
   rwa [hz] at this
theorem int_take {M : MH} {v : MV} {l : List Int} {i : Nat} (h : IntRow M v l) (hi : i ≤ l.length) : IntRow M (cutHi i v) (l.take i) := by
 have := row_take (i := i) h (by rw [ints_len]; exact hi)
 unfold ints at this
 rwa [← List.map_take] at this
theorem int_skip {M : MH} {v : MV} {l : List Int} {i : Nat} (h : IntRow M v l) (hi : i ≤ l.length) : IntRow M (cutLo 1 i v) (l.drop i) := by
 have := row_skip (i := i) h (by rw [ints_len]; exact hi)
 unfold ints at this
 rwa [← List.map_drop] at this
def insN (p : Nat) : List Nat → List Nat
 | [] => [p]
 | q :: r => if q < p then q :: insN p r else if q = p then q :: r else p :: q :: r
theorem insN_at (p : Nat) : ∀ (l : List Nat) (i : Nat), i ≤ l.length → (∀ j q, j < i → l[j]? = some q → q < p) → (∀ q, l[i]? = some q → ¬ q < p) → insN p l = if l[i]? = some p then l else l.take i ++ p :: l.drop i
 | [], i, hi, _, _ => by
  have : i = 0 := by simpa using hi
  subst this
  simp [insN]
 | q :: r, 0, _, _, h2 => by
  have := h2 q rfl
  rw [insN, if_neg this]
  by_cases e : q = p
  ·rw [if_pos e, if_pos (by rw [e]; rfl)]
  ·rw [if_neg e, if_neg (by intro h; exact e (Option.some.inj h))]
   rfl
 | q :: r, i + 1, hi, h1, h2 => by
  have := h1 0 q (by omega) rfl
  rw [insN, if_pos this]
  have ih := insN_at p r i (by simpa using hi) (fun j x hj hx => h1 (j + 1) x (by omega) (by rw [List.getElem?_cons_succ]; exact hx)) (fun x hx => h2 x (by rw [List.getElem?_cons_succ]; exact hx))
  rw [ih, List.getElem?_cons_succ, List.take_succ_cons, List.drop_succ_cons]
  split <;> rfl
theorem insN_mem (p : Nat) : ∀ (l : List Nat) (x : Nat), x ∈ insN p l ↔ x = p ∨ x ∈ l
 | [], x => by simp [insN]
 | q :: r, x => by
  unfold insN
  split
  ·rw [List.mem_cons, insN_mem p r x, List.mem_cons]
   exact ⟨fun h => h.elim (fun e => .inr (.inl e)) fun h => h.elim .inl fun e => .inr (.inr e), fun h => h.elim (fun e => .inr (.inl e)) fun h => h.elim .inl fun e => .inr (.inr e)⟩
  ·split
   ·rename_i e
    subst e
    exact ⟨.inr, fun h => h.elim (fun e => by rw [e]; exact List.mem_cons_self) id⟩
   ·rw [List.mem_cons]
theorem insN_ris (p : Nat) : ∀ {l : List Nat}, Ris l → Ris (insN p l)
 | [], _ => by unfold insN Ris; exact List.pairwise_singleton _ _
 | q :: r, h => by
  have h' := h
  unfold Ris at h'
  rw [List.pairwise_cons] at h'
  unfold insN
  split
  ·rename_i hqp
   unfold Ris
   rw [List.pairwise_cons]
   refine ⟨fun x hx => ?_, insN_ris p h'.2⟩
   rcases (insN_mem p r x).1 hx with e | e
   ·omega
   ·exact h'.1 x e
  ·split
   ·exact h
   ·unfold Ris
    rw [List.pairwise_cons]
    refine ⟨fun x hx => ?_, h⟩
    rcases List.mem_cons.1 hx with e | e
    ·omega
    ·have := h'.1 x e; omega
theorem insN_len (p : Nat) : ∀ {l : List Nat}, Ris l → (insN p l).length = if p ∈ l then l.length else l.length + 1
 | [], _ => by simp [insN]
 | q :: r, h => by
  have h' := h
  unfold Ris at h'
  rw [List.pairwise_cons] at h'
  unfold insN
  split
  ·rename_i hqp
   rw [List.length_cons, insN_len p h'.2, List.length_cons]
   by_cases e : p ∈ r
   ·rw [if_pos e, if_pos (List.mem_cons_of_mem _ e)]
   ·rw [if_neg e, if_neg (fun e' => (List.mem_cons.1 e').elim (fun e => by omega) e)]
  ·split
   ·rename_i e
    rw [if_pos (by rw [e]; exact List.mem_cons_self)]
   ·rw [if_neg, List.length_cons]
    intro e'
    rcases List.mem_cons.1 e' with e | e
    ·omega
    ·have := h'.1 p e; omega
noncomputable def floB (sz n id : Nat) (o : Option (List MV)) : Option (MV × MO) := match o with
 | some l => some (.sl id 0 n 0, .cs false sz (ofL l 0))
 | none => none
theorem floB_some (sz n id : Nat) (l : List MV) : floB sz n id (some l) = some (.sl id 0 n 0, .cs false sz (ofL l 0)) := rfl
theorem float_bsl (sz n : Nat) (zs : List MV) (ps : List (Nat × Nat × X)) (f : Fr) (id : Nat) : floatEv (.bsl sz n zs ps) f id = floB sz n id (fillM (ps.map fun x => (x.1, x.2.1, x.2.2.ev f)) (zrow zs n)) := rfl
theorem apart_appI {i j sz b k id off : Nat} {y x : X} {l : List (IOper × DK)} {n : Nat} {f : Fr} {hs : List MH} {d d' : Option Ky} {gd gd' : Option (Ky × Bool)} {kd : DK} (h1 : l[i]? = some (⟨d, gd, .app sz b (.c .nils) y⟩, .md)) (h2 : l[j]? = some (⟨d', gd', .ldN k x⟩, kd)) (hx : X.ev f x = .p id off) (hid : id < n) (hn : ∀ M ∈ hs, n ≤ M.n) : apartL [(i, j)] l n f hs = true := by
 unfold apartL
 have e1 : hs.all (fun M => Nat.ble n M.n) = true := List.all_eq_true.2 fun M hM => ble_t' (hn M hM)
 have e2 : apartB n (cidx (l.map (·.2)) i) hs (.app sz b (.c .nils) y) (.ldN k x) f = true := by
  unfold apartB
  show (match (match X.ev f x with
   | .p id _ => some id
   | _ => none) with
   | some id => Nat.blt id n && ((match touch (.app sz b (.c .nils) y) f with
    | some (some q) => !(q == id)
    | some none => true
    | none => false) || (Nat.blt (cidx (l.map (·.2)) i + 1) hs.length && sameO (atS hs (cidx (l.map (·.2)) i + 1) id) (atS hs (cidx (l.map (·.2)) i) id)))
   | none => false) = true
  rw [hx]
  show (Nat.blt id n && (true || _)) = true
  rw [blt_t hid, Bool.true_or]
  rfl
 simp only [List.isEmpty_cons, Bool.false_or, List.all_cons, List.all_nil, h1, h2, e1, e2, Bool.and_true, Bool.true_and]
 rfl
theorem own_idJ {lo : Nat} {M : MH} {sz : Nat} {v : MV} {es : List (List MV)} (h : OwnRow lo M sz v es) {a b n d : Nat} (e : v = .sl a b n d) : ∃ c, M.get a = some (.cs false sz c) ∧ lo ≤ a ∧ a < M.n := by
 obtain ⟨_, ⟨h1, _⟩ | ⟨id, c, h1, h2, h3, h4, _⟩⟩ := h
 ·rw [e] at h1; cases h1
 ·rw [e] at h1
  injection h1 with h1
  subst h1
  exact ⟨c, h2, h3, h4⟩
theorem itc_read {M : MH} {v : MV} {l : List Nat} (h : RowAt M 2 v (ivs l)) {i x : Nat} (hx : l[i]? = some x) : ∃ ro s c, M.get (sid v) = some (.cs ro s c) ∧ sid v < M.n ∧ Ev.getN c 2 (soff v + i * 2) = some (itc x) ∧ cget c (soff v + i * 2) = some (.i .i64 (((x / 9 : Nat) : Int) - 1)) ∧ cget c (soff v + i * 2 + 1) = some (.i .i64 ((x % 9 : Nat) : Int)) := by
 obtain ⟨ro, s, c, h1, h2, h3⟩ := RowAt.read h (ivs_at hx)
 exact ⟨ro, s, c, h1, h2, h3.getN, by have := h3 0 _ rfl; simpa using this, h3 1 _ rfl⟩
theorem eq_items (neg : Bool) (x y : Nat) : puM (.eqA 2 neg) (.ag (itc x)) (.ag (itc y)) = some (.b (bif neg then !decide (x = y) else decide (x = y))) := by
 unfold itc
 rw [puM_eqA, eqAg_i, eqAg_i, eqAg_nil]
 have e : decide (x = y) = (decide (((x / 9 : Nat) : Int) - 1 = ((y / 9 : Nat) : Int) - 1) && decide (((x % 9 : Nat) : Int) = ((y % 9 : Nat) : Int))) := by
  rw [← Bool.decide_and, decide_eq_decide]
  omega
 rw [e]
 generalize ((x / 9 : Nat) : Int) - 1 = a
 generalize ((y / 9 : Nat) : Int) - 1 = b
 generalize ((x % 9 : Nat) : Int) = c
 generalize ((y % 9 : Nat) : Int) = d
 by_cases h1 : a = b
 ·by_cases h2 : c = d
  ·subst h1; subst h2; simp
  ·have : (c == d) = false := by rw [beq_eq_false_iff_ne]; exact h2
   subst h1; simp [h2, this]
 ·have : (a == b) = false := by rw [beq_eq_false_iff_ne]; exact h1
  simp [h1, this]
theorem put_any {M : MH} {v : MV} {l : List Nat} {p : Nat} (hlo : M.lo ≤ M.n) (h : RowAt M 2 v (ivs l)) (hl : l.length ≤ 100000) : Cp fns 22 [v, .ag (itc p)] M fun m M' => Ext M M' ∧ RowAt M' 2 m (ivs (insN p l)) ∧ ((m = v ∧ insN p l = l) ∨ OwnRow M.n M' 2 m (ivs (insN p l))) := by
 obtain ⟨s1, s2⟩ := h.sl
 have s2 : slen v = l.length := s2.trans (ivs_len l)
 refine Cp_call (fn := F22) (by kernel_rfl) (Nat.le_of_ble_eq_true rfl) ?_
 show Wp fns B22 (T.set q1 (some (.ag (itc p))) (T.set q0 (some v) T.lf)) M _
 unfold B22
 simp (disch := try exact dz) only [↓bxD, bA, simprocAttr, i_len]
 generalize hM1 : M.push _ = M1
 have x1 : Ext M M1 := by rw [← hM1]; exact .push M _
 have g1 : M1.get M.n = some (.cs false 2 (ofL (itc p) 0)) := by rw [← hM1]; exact push_new _
 have n1 : M1.n = M.n + 1 := by rw [← hM1]; rfl
 have l1 := x1.lo
 clear hM1
 have last : ∀ (i : Nat) (f : Fr) (M' : MH), i ≤ l.length → X.ev f (.t q0) = v → X.ev f (.t q3) = .p M.n 0 → X.ev f (.t q5) = .i .i64 (i : Int) → Ext M1 M' → (∀ j q, j < i → l[j]? = some q → q < p) → (∀ q, l[i]? = some q → ¬ q < p) → Wp fns K22_4 f M' (retQ F22 fun m M' => Ext M M' ∧ RowAt M' 2 m (ivs (insN p l)) ∧ ((m = v ∧ insN p l = l) ∨ OwnRow M.n M' 2 m (ivs (insN p l)))) := by
  intro i f M' hi e0 e3 e5 hx hno hat
  have hins := insN_at p l i hi hno hat
  have xn := hx.n
  have xl := hx.lo
  have g1' := (hx.old M.n (by omega)).trans g1
  simp only [q0, q3, q5] at e0 e3 e5
  have rest : ∀ f, X.ev f (.t q0) = v → X.ev f (.t q3) = .p M.n 0 → X.ev f (.t q5) = .i .i64 (i : Int) → l[i]? ≠ some p → Wp fns K22_3 f M' (retQ F22 fun m M' => Ext M M' ∧ RowAt M' 2 m (ivs (insN p l)) ∧ ((m = v ∧ insN p l = l) ∨ OwnRow M.n M' 2 m (ivs (insN p l)))) := by
   intro f e0 e3 e5 hne
   rw [if_neg hne] at hins
   simp only [q0, q3, q5] at e0 e3 e5
   have hc1 : cutM 2 v none (some (.i .i64 (i : Int))) = some (cutHi i v) := cutM_hi s1 (by omega)
   have hc2 : cutM 2 v (some (.i .i64 (i : Int))) none = some (cutLo 2 i v) := cutM_lo s1 (by omega)
   unfold K22_3
   simp (disch := try exact dz) only [↓bxD, bA, simprocAttr]
   refine Wp_dreg_of (by omega) ?_
   simp (disch := try exact dz) only [↓bxD, bA, simprocAttr, e0, e5, hc1, Option.map_some, Option.map_none]
   have hR : RowAt (M'.room 1) 2 (cutHi i v) (ivs (l.take i)) := by
    have := row_take (i := i) (h.ext ((x1.trans hx).trans (.room M' 1))) (by rw [ivs_len]; exact hi)
    unfold ivs at this ⊢
    rw [List.map_take]
    exact this
   obtain ⟨w1, M2, a1, a2, a3, a4, a5, a6, _⟩ := app_rowX (bytes := 16) (lo := M'.n + 1) (OwnRow.nil _ (M'.room 1) 2) hR (by show M'.lo ≤ _; omega) (by show M'.n + 1 ≤ M'.n + 1; omega) (fun e he => by
    unfold ivs at he
    obtain ⟨x, _, rfl⟩ := List.mem_map.1 he
    rfl) (by rw [ivs_len, List.length_take]; simp only [List.length_nil]; omega) (by rw [ivs_len, List.length_take]; simp only [List.length_nil]; omega)
   refine bindP_of a1 ?_
   have ff : fillM [(0, 2, .ag (itc p))] [.i .i64 0, .i .i64 0] = some (itc p) := rfl
   have ff' : fillM [(0, 2, .ag (itc p))] (zrow [.i .i64 0, .i .i64 0] 1) = some (itc p) := rfl
   simp (disch := try exact dz) only [↓bxD, bA, simprocAttr, e3, g1', i_N, Option.map_some, float_bsl, ff, floB_some]
   have hpk : pickL ([] ++ [(M'.n, MO.cs false 2 (ofL (itc p) 0))]) M'.n [0] = some [(M'.n, MO.cs false 2 (ofL (itc p) 0))] := by
    simp [pickL]
   simp (disch := try exact dz) only [bA, simprocAttr, hpk, adopt_cons]
   have n2 : M'.n + 1 ≤ M2.n := a3
   have l2 : M2.lo = M'.lo := a4
   generalize hM3 : M2.set M'.n _ = M3
   have g3 : M3.get M'.n = some (.cs false 2 (ofL (itc p) 0)) := by rw [← hM3]; exact set_same _ _
   have n3 : M3.n = M2.n := by rw [← hM3]; rfl
   have l3 : M3.lo = M2.lo := by rw [← hM3]; rfl
   have o3 : ∀ j, j ≠ M'.n → M3.get j = M2.get j := fun j hj => by rw [← hM3]; exact set_ne hj
   have w3 : OwnRow (M'.n + 1) M3 2 w1 (ivs (l.take i)) := OwnRow.keep (by simpa using a2) (by omega) fun a b n d e => by
    obtain ⟨cc, q1, q2, q3⟩ := own_idJ a2 e
    exact o3 a (by omega)
   have r3 : RowAt M3 2 (.sl M'.n 0 1 0) [itc p] := ⟨fun e he => by rw [List.mem_singleton.1 he]; rfl, .inr ⟨M'.n, 0, 0, false, 2, _, rfl, g3, by omega, at_ofL _⟩⟩
   have hpl : (ivs (l.take i)).length = i := by rw [ivs_len, List.length_take]; omega
   obtain ⟨w4, M4, b1, b2, b3, b4, b5, b6, _⟩ := app_rowX (bytes := 16) w3 r3 (by omega) (by omega) (fun e he => by
    rw [List.mem_singleton.1 he]; rfl) (by rw [hpl]; simp only [List.length_cons, List.length_nil]; omega) (by rw [hpl]; simp only [List.length_cons, List.length_nil]; omega)
   refine bindP_of b1 ?_
   simp (disch := try exact dz) only [↓bxD, bA, simprocAttr, e0, e5, hc2, Option.map_some, Option.map_none]
   refine ⟨?_, ?_⟩
   ·refine apart_appI rfl rfl (id := M.n) (off := 0) ?_ (by omega) ?_
    ·simp only [bA, reduceCtorEq, e3]
    ·intro m hm
     simp only [List.mem_cons, List.not_mem_nil, or_false] at hm
     rcases hm with rfl | rfl | rfl
     all_goals first
      | omega
      | (show M'.n ≤ M'.n + 1; omega)
   ·have hlate : ∀ (os : List (Nat × MO)) (l : List (IOper × DK)), os = [(M'.n, MO.cs false 2 (ofL (itc p) 0))] → (l.any fun q => match q.2 with
      | .ma js => js.any fun j => M'.n + j == M'.n
      | _ => false) = true → lateL l M'.n os = [] := fun os l e h => by
     subst e
     unfold lateL
     rw [List.filter_cons, if_neg (fun e => Bool.noConfusion (e.symm.trans (congrArg (fun b => !b) h)))]
     rfl
    rw [hlate _ _ (by simp) (by simp)]
    have n4 : M3.n ≤ M4.n := b3
    have x4 : Ext M M4 := ⟨by omega, by omega, fun j hj => by
     rw [b6 j (by omega) (by omega), o3 j (by omega), a6 j (by omega) (by show j < M'.n + 1; omega)]
     show M'.get j = _
     exact (x1.trans hx).old j hj⟩
    have r4 : RowAt M4 2 (cutLo 2 i v) (ivs (l.drop i)) := by
     have := row_skip (i := i) (h.ext x4) (by rw [ivs_len]; exact hi)
     unfold ivs at this ⊢
     rw [List.map_drop]
     exact this
    obtain ⟨w5, M5, d1, d2, d3, d4, d5, d6, _⟩ := app_rowX (bytes := 16) b2 r4 (by omega) (by omega) (fun e he => by
     unfold ivs at he
     obtain ⟨x, _, rfl⟩ := List.mem_map.1 he
     rfl) (by rw [List.length_append, hpl, ivs_len, List.length_drop]; simp only [List.length_cons, List.length_nil]; omega) (by rw [List.length_append, hpl, ivs_len, List.length_drop]; simp only [List.length_cons, List.length_nil]; omega)
    refine bindP_of d1 ?_
    simp (disch := try exact dz) only [↓bxD, bA, simprocAttr]
    show Wp fns IC.ret _ _ _
    simp (disch := try exact dz) only [↓bxD, bA, simprocAttr]
    refine ⟨⟨by omega, by omega, fun j hj => (d6 j (by omega) (by omega)).trans (x4.old j hj)⟩, ?_⟩
    rw [hins, ivs_app]
    have := d2.le (lo' := M.n) (by omega)
    rw [List.append_assoc] at this
    exact ⟨this.row, .inr this⟩
  unfold K22_4
  simp (disch := try exact dz) only [↓bxD, bA, simprocAttr]
  refine Wp_dreg_of (by omega) ?_
  by_cases hi' : i < l.length
  ·have d0 : decide ((i : Int) < (l.length : Int)) = true := decide_eq_true (by omega)
   obtain ⟨x, hx1⟩ : ∃ x, l[i]? = some x := ⟨_, List.getElem?_eq_getElem hi'⟩
   obtain ⟨ro, sz, t, g, _, hc, _, _⟩ := itc_read (h.ext (x1.trans hx)) hx1
   have dq : puM (.eqA 2 false) (.ag (itc x)) (.ag (itc p)) = some (.b (decide (x = p))) := eq_items false x p
   simp (disch := try exact dz) only [↓bxD, bA, simprocAttr, e0, e3, e5, s2, d0, g, hc, g1', i_N, Option.map_some, dq]
   by_cases hxp : x = p
   ·have d1 : decide (x = p) = true := decide_eq_true hxp
    show Wp fns (IC.seq K22_2 K22_3) _ _ _
    unfold K22_2
    simp (disch := try exact dz) only [↓bxD, bA, simprocAttr, e0, d1]
    exact ⟨x1.trans hx, by rw [hins, if_pos (by rw [hx1, hxp])]; exact ⟨h.ext (x1.trans hx), .inl rfl⟩⟩
   ·have d1 : decide (x = p) = false := decide_eq_false hxp
    show Wp fns (IC.seq K22_2 K22_3) _ _ _
    unfold K22_2
    simp (disch := try exact dz) only [↓bxD, bA, simprocAttr, d1]
    exact rest _ (by simp only [bA, reduceCtorEq, e0]) (by simp only [bA, reduceCtorEq, e3]) (by simp only [bA, reduceCtorEq, e5]) (fun e => hxp (by rw [hx1] at e; exact Option.some.inj e))
  ·have d0 : decide ((i : Int) < (l.length : Int)) = false := decide_eq_false (by omega)
   simp (disch := try exact dz) only [↓bxD, bA, simprocAttr, e0, e5, s2, d0]
   show Wp fns (IC.seq K22_2 K22_3) _ _ _
   unfold K22_2
   simp (disch := try exact dz) only [↓bxD, bA, simprocAttr]
   exact rest _ (by simp only [bA, reduceCtorEq, e0]) (by simp only [bA, reduceCtorEq, e3]) (by simp only [bA, reduceCtorEq, e5]) (fun e => by rw [List.getElem?_eq_none (by omega)] at e; cases e)
 refine Wp_inv (σ := Nat) (fun i f M' => i ≤ l.length ∧ X.ev f (.t q0) = v ∧ X.ev f (.t q3) = .p M.n 0 ∧ X.ev f (.t q5) = .i .i64 (i : Int) ∧ Ext M1 M' ∧ ∀ j q, j < i → l[j]? = some q → q < p) (fun i => l.length - i) ?_ 0 ?_
 ·rintro i f M' ⟨hi, e0, e3, e5, hx, hno⟩
  have xn := hx.n
  have xl := hx.lo
  have g1' := (hx.old M.n (by omega)).trans g1
  simp only [q0, q3, q5] at e0 e3 e5
  unfold L22_1
  simp (disch := try exact dz) only [↓bxD, bA, simprocAttr]
  refine Wp_dreg_of (by omega) ?_
  by_cases hi' : i < l.length
  ·have d0 : decide ((i : Int) < (l.length : Int)) = true := decide_eq_true (by omega)
   obtain ⟨x, hx1⟩ : ∃ x, l[i]? = some x := ⟨_, List.getElem?_eq_getElem hi'⟩
   obtain ⟨ro, sz, t, g, _, hN2, hc0, hc1⟩ := itc_read (h.ext (x1.trans hx)) hx1
   have wi : wrapF .i64 ((i : Int) + 1) = ((i + 1 : Nat) : Int) := by rw [wrap_in (by omega) (by omega)]; omega
   have yes : x < p → ∀ j q, j < i + 1 → l[j]? = some q → q < p := fun hlt j q hj hq => by
    by_cases hji : j = i
    ·rw [hji, hx1] at hq; cases hq; exact hlt
    ·exact hno j q (by omega) hq
   have no : ¬ x < p → ∀ q, l[i]? = some q → ¬ q < p := fun hlt q hq => by rw [hx1] at hq; cases hq; exact hlt
   by_cases c1 : x / 9 < p / 9
   ·have d1 : decide (((x / 9 : Nat) : Int) - 1 < ((p / 9 : Nat) : Int) - 1) = true := decide_eq_true (by omega)
    simp (disch := try exact dz) only [↓bxD, bA, simprocAttr, e0, e3, e5, s2, g1', i_0', d0, d1, g, hc0]
    show Wp fns (IC.seq _ K22_0) _ _ _
    simp (disch := try exact dz) only [↓bxD, bA, simprocAttr]
    show Wp fns K22_0 _ _ _
    unfold K22_0
    simp (disch := try exact dz) only [↓bxD, bA, simprocAttr, e0, e3, e5, wi]
    exact ⟨i + 1, by omega, by omega, rfl, hx, yes (by omega)⟩
   have d1 : decide (((x / 9 : Nat) : Int) - 1 < ((p / 9 : Nat) : Int) - 1) = false := decide_eq_false (by omega)
   by_cases c2 : x / 9 = p / 9
   ·have d2 : decide (((x / 9 : Nat) : Int) - 1 = ((p / 9 : Nat) : Int) - 1) = true := decide_eq_true (by omega)
    by_cases c3 : x % 9 < p % 9
    ·have d3 : decide (((x % 9 : Nat) : Int) < ((p % 9 : Nat) : Int)) = true := decide_eq_true (by omega)
     simp (disch := try exact dz) only [↓bxD, bA, simprocAttr, e0, e3, e5, s2, g1', i_0', i_1', d0, d1, d2, d3, g, hc0, hc1]
     show Wp fns (IC.seq _ K22_0) _ _ _
     simp (disch := try exact dz) only [↓bxD, bA, simprocAttr]
     show Wp fns K22_0 _ _ _
     unfold K22_0
     simp (disch := try exact dz) only [↓bxD, bA, simprocAttr, e0, e3, e5, wi]
     exact ⟨i + 1, by omega, by omega, rfl, hx, yes (by omega)⟩
    ·have d3 : decide (((x % 9 : Nat) : Int) < ((p % 9 : Nat) : Int)) = false := decide_eq_false (by omega)
     simp (disch := try exact dz) only [↓bxD, bA, simprocAttr, e0, e3, e5, s2, g1', i_0', i_1', d0, d1, d2, d3, g, hc0, hc1]
     show Wp fns (IC.seq _ K22_0) _ _ _
     simp (disch := try exact dz) only [↓bxD, bA, simprocAttr]
     exact last i _ M' (by omega) (by simp only [bA, reduceCtorEq, e0]) (by simp only [bA, reduceCtorEq, e3]) (by simp only [bA, reduceCtorEq, e5]) hx hno (no (by omega))
   ·have d2 : decide (((x / 9 : Nat) : Int) - 1 = ((p / 9 : Nat) : Int) - 1) = false := decide_eq_false (by omega)
    simp (disch := try exact dz) only [↓bxD, bA, simprocAttr, e0, e3, e5, s2, g1', i_0', d0, d1, d2, g, hc0]
    show Wp fns (IC.seq _ K22_0) _ _ _
    simp (disch := try exact dz) only [↓bxD, bA, simprocAttr]
    exact last i _ M' (by omega) (by simp only [bA, reduceCtorEq, e0]) (by simp only [bA, reduceCtorEq, e3]) (by simp only [bA, reduceCtorEq, e5]) hx hno (no (by omega))
  ·have d0 : decide ((i : Int) < (l.length : Int)) = false := decide_eq_false (by omega)
   simp (disch := try exact dz) only [↓bxD, bA, simprocAttr, e0, e5, s2, d0]
   show Wp fns (IC.seq _ K22_0) _ _ _
   simp (disch := try exact dz) only [↓bxD, bA, simprocAttr]
   exact last i _ M' hi (by simp only [bA, reduceCtorEq, e0]) (by simp only [bA, reduceCtorEq, e3]) (by simp only [bA, reduceCtorEq, e5]) hx hno (fun q hq => by rw [List.getElem?_eq_none (by omega)] at hq; cases hq)
 ·exact ⟨Nat.zero_le _, by simp only [bA, reduceCtorEq], by simp only [bA, reduceCtorEq], by simp only [bA, reduceCtorEq] <;> rfl, .refl _, fun j q hj => by omega⟩
theorem same_items {M : MH} {v w : MV} {l r : List Nat} (hlo : M.lo ≤ M.n) (h : RowAt M 2 v (ivs l)) (k : RowAt M 2 w (ivs r)) (hl : l.length ≤ 1000000) : Cp fns 8 [v, w] M fun m M' => m = .b (decide (l = r)) ∧ Ext M M' := by
 obtain ⟨s1, s2⟩ := h.sl
 have s2 : slen v = l.length := s2.trans (ivs_len l)
 obtain ⟨t1, t2⟩ := k.sl
 have t2 : slen w = r.length := t2.trans (ivs_len r)
 refine Cp_call (fn := F8) (by kernel_rfl) (Nat.le_of_ble_eq_true rfl) ?_
 show Wp fns B8 (T.set q1 (some w) (T.set q0 (some v) T.lf)) M _
 unfold B8
 simp (disch := try exact dz) only [↓bxD, bA, simprocAttr, s2, t2]
 by_cases hlen : l.length = r.length
 ·have d0 : decide ((l.length : Int) ≠ (r.length : Int)) = false := decide_eq_false (fun e => e (by omega))
  simp (disch := try exact dz) only [↓bxD, bA, simprocAttr, d0]
  show Wp fns K8_5 _ _ _
  unfold K8_5
  simp (disch := try exact dz) only [↓bxD, bA, simprocAttr]
  refine Wp_inv (σ := Nat) (fun i f M' => i ≤ l.length ∧ X.ev f (.t q0) = v ∧ X.ev f (.t q1) = w ∧ X.ev f (.t q5) = .i .i64 (i : Int) ∧ Ext M M' ∧ l.take i = r.take i) (fun i => l.length - i) ?_ 0 ?_
  ·rintro i f M' ⟨hi, e0, e1, e5, hx, hno⟩
   have xn := hx.n
   have xl := hx.lo
   simp only [q0, q1, q5] at e0 e1 e5
   unfold L8_3
   simp (disch := try exact dz) only [↓bxD, bA, simprocAttr, e0, e5, s2]
   refine condP_split (fun hlt => ?_) (fun hge => ?_)
   ·have hi' : i < l.length := by omega
    have hir : i < r.length := by omega
    obtain ⟨x, hx1⟩ : ∃ x, l[i]? = some x := ⟨_, List.getElem?_eq_getElem hi'⟩
    obtain ⟨y, hy⟩ : ∃ y, r[i]? = some y := ⟨_, List.getElem?_eq_getElem hir⟩
    obtain ⟨ro, sz, t, g, _, hc, _, _⟩ := itc_read (h.ext hx) hx1
    obtain ⟨ro', sz', t', g', _, hc', _, _⟩ := itc_read (k.ext hx) hy
    have dq : puM (.eqA 2 true) (.ag (itc x)) (.ag (itc y)) = some (.b (!decide (x = y))) := eq_items true x y
    simp (disch := try exact dz) only [↓bxD, bA, simprocAttr]
    show Wp fns K8_2 _ _ _
    unfold K8_2
    simp (disch := try exact dz) only [↓bxD, bA, simprocAttr]
    refine Wp_dreg_of (by omega) ?_
    simp (disch := try exact dz) only [↓bxD, bA, simprocAttr, e0, e1, e5, g, g', hc, hc', Option.map_some, dq]
    by_cases hxy : x = y
    ·have d1 : decide (¬ x = y) = false := decide_eq_false (fun e => e hxy)
     show Wp fns K8_0 _ _ _
     unfold K8_0
     simp (disch := try exact dz) only [↓bxD, bA, simprocAttr, d1]
     show Wp fns K8_1 _ _ _
     unfold K8_1
     simp (disch := try exact dz) only [↓bxD, bA, simprocAttr, e0, e1, e5]
     refine ⟨i + 1, by omega, by omega, rfl, hx, ?_⟩
     rw [List.take_add_one, List.take_add_one, hx1, hy, hno, hxy]
    ·have d1 : decide (¬ x = y) = true := decide_eq_true hxy
     show Wp fns K8_0 _ _ _
     unfold K8_0
     simp (disch := try exact dz) only [↓bxD, bA, simprocAttr, d1]
     refine ⟨?_, hx⟩
     rw [decide_eq_false (fun e => hxy (by rw [e, hy] at hx1; exact (Option.some.inj hx1).symm))]
   ·have hil : i = l.length := by omega
    simp (disch := try exact dz) only [↓bxD, bA, simprocAttr]
    show Wp fns K8_4 _ _ _
    unfold K8_4
    simp (disch := try exact dz) only [↓bxD, bA, simprocAttr]
    rw [hil, List.take_length, hlen, List.take_length] at hno
    rw [decide_eq_true hno]
    exact ⟨rfl, hx⟩
  ·exact ⟨Nat.zero_le _, by simp only [bA, reduceCtorEq], by simp only [bA, reduceCtorEq], by simp only [bA, reduceCtorEq] <;> rfl, .refl _, by simp⟩
 ·have d0 : decide ((l.length : Int) ≠ (r.length : Int)) = true := decide_eq_true (by omega)
  simp (disch := try exact dz) only [↓bxD, bA, simprocAttr, d0]
  refine ⟨?_, .refl _⟩
  rw [decide_eq_false (fun e => hlen (by rw [e]))]
def obj : MV → Option Nat
 | .sl a _ _ _ => some a
 | _ => none
theorem own_obj {lo : Nat} {M : MH} {sz : Nat} {v : MV} {es : List (List MV)} (h : OwnRow lo M sz v es) {j : Nat} (e : obj v = some j) : lo ≤ j ∧ j < M.n ∧ ∃ c, M.get j = some (.cs false sz c) := by
 obtain ⟨_, ⟨rfl, _⟩ | ⟨id, c, rfl, h2, h3, h4, _⟩⟩ := h
 ·cases e
 ·injection e with e
  subst e
  exact ⟨h3, h4, c, h2⟩
theorem own_keep {lo : Nat} {M M' : MH} {sz : Nat} {v : MV} {es : List (List MV)} (h : OwnRow lo M sz v es) (hn : M.n ≤ M'.n) (k : ∀ j, obj v = some j → M'.get j = M.get j) : OwnRow lo M' sz v es :=
 h.keep hn fun a b n d e => k a (by rw [e]; rfl)
theorem app_obj {lo sz bytes : Nat} {M : MH} {v : MV} {es : List (List MV)} {e : List MV} (h : OwnRow lo M sz v es) (hlo : M.lo ≤ lo) (hln : lo ≤ M.n) (he : e.length = sz) (ho : allOne e = true) (hb : (es.length + 1) * bytes ≤ 140737488355328) (hl : es.length + 1 ≤ 9223372036854775807) :
  ∃ v' M', appM (M.push (.cs false sz (ofL e 0))) sz bytes v (.sl M.n 0 1 0) = some (v', M') ∧ OwnRow lo M' sz v' (es ++ [e]) ∧ M.n + 1 ≤ M'.n ∧ M'.lo = M.lo ∧ obj v' = some (M.n + 1) ∧ isSl v' = true ∧ ∀ j, j < M.n → obj v ≠ some j → M'.get j = M.get j := by
 have h1 := h.ext (.push M (.cs false sz (ofL e 0)))
 obtain ⟨v', M', a, b, c, d, e5, e6, e7⟩ := app_rowX (bytes := bytes) h1 (row_one (M := M) (sz := sz) (e := e) he) (by rw [push_lo]; exact hlo) (by rw [push_n]; omega) (fun x hx => by rw [List.mem_singleton.1 hx]; exact ho) (by rw [List.length_singleton]; exact hb) (by rw [List.length_singleton]; exact hl)
 obtain ⟨n, hn⟩ := e7 (by simp)
 refine ⟨v', M', a, b, by rw [push_n] at c; exact c, d, by rw [hn]; rfl, by rw [hn]; rfl, fun j hj hv => ?_⟩
 rw [e5 j (by rw [push_n]; omega) (fun a b n d e => by rw [e] at hv; intro e'; subst e'; exact hv rfl), push_old hj]
abbrev Rws := List (Option (Nat × List (List MV)))
structure OO (lo : Nat) (M : MH) (p : Nat) (cs : List MV) (L : Rws) : Prop where
 box : ∃ t, M.get p = some (.cs false cs.length t) ∧ At t 0 cs
 pl : lo ≤ p ∧ p < M.n
 row : ∀ (i sz : Nat) es, L[i]? = some (some (sz, es)) → ∃ v, cs[i]? = some v ∧ OwnRow lo M sz v es ∧ obj v ≠ some p
 apart : ∀ (i j : Nat) x y v w id, i ≠ j → L[i]? = some (some x) → L[j]? = some (some y) → cs[i]? = some v → cs[j]? = some w → obj v = some id → obj w ≠ some id
def OFoot (p : Nat) (cs : List MV) (L : Rws) (j : Nat) : Prop := j = p ∨ ∃ (i : Nat) (x : Nat × List (List MV)) (v : MV), L[i]? = some (some x) ∧ cs[i]? = some v ∧ obj v = some j
section
variable {lo : Nat} {M M' : MH} {p : Nat} {cs : List MV} {L : Rws}
theorem OO.foot_lt (h : OO lo M p cs L) {j : Nat} (hj : OFoot p cs L j) : lo ≤ j ∧ j < M.n := by
 rcases hj with rfl | ⟨i, x, v, h1, h2, h3⟩
 ·exact h.pl
 ·obtain ⟨v', k1, k2, _⟩ := h.row i x.1 x.2 h1
  rw [h2] at k1
  injection k1 with k1
  subst k1
  obtain ⟨a, b, _⟩ := own_obj k2 h3
  exact ⟨a, b⟩
theorem OO.keep (h : OO lo M p cs L) (hn : M.n ≤ M'.n) (hk : ∀ j, OFoot p cs L j → M'.get j = M.get j) : OO lo M' p cs L := by
 obtain ⟨t, h1, h2⟩ := h.box
 have h3 := h.pl
 refine ⟨⟨t, (hk p (.inl rfl)).trans h1, h2⟩, ⟨h3.1, by omega⟩, fun i sz es e => ?_, h.apart⟩
 obtain ⟨v, k1, k2, k3⟩ := h.row i sz es e
 exact ⟨v, k1, own_keep k2 hn fun j e' => hk j (.inr ⟨i, _, v, e, k1, e'⟩), k3⟩
theorem OO.ext (h : OO lo M p cs L) (x : Ext M M') : OO lo M' p cs L := h.keep x.n fun j hj => x.old j (h.foot_lt hj).2
theorem OO.get (h : OO lo M p cs L) {i sz : Nat} {es : List (List MV)} (e : L[i]? = some (some (sz, es))) {v : MV} (hv : cs[i]? = some v) : OwnRow lo M sz v es ∧ obj v ≠ some p := by
 obtain ⟨v', k1, k2, k3⟩ := h.row i sz es e
 rw [hv] at k1
 injection k1 with k1
 subst k1
 exact ⟨k2, k3⟩
theorem set_ls {α : Type} {l : List α} {i j : Nat} {x y : α} (h : (l.set i x)[j]? = some y) : (j = i ∧ y = x) ∨ (j ≠ i ∧ l[j]? = some y) := by
 rw [List.getElem?_set] at h
 by_cases e : i = j
 ·rw [if_pos e] at h
  split at h
  ·injection h with h
   exact .inl ⟨e.symm, h.symm⟩
  ·cases h
 ·rw [if_neg e] at h
  exact .inr ⟨fun e' => e e'.symm, h⟩
theorem OO.fld (h : OO lo M p cs L) {i : Nat} {v' : MV} (hi : i < cs.length) {r : Option (Nat × List (List MV))} (hr : ∀ sz es, r = some (sz, es) → OwnRow lo M sz v' es ∧ obj v' ≠ some p ∧ ∀ (j : Nat) x w id, j ≠ i → L[j]? = some (some x) → cs[j]? = some w → obj w = some id → obj v' ≠ some id) {t : T MV} (ht : M.get p = some (.cs false cs.length t)) (hc : v'.cells = [v']) : OO lo (M.set p (some (.cs false cs.length (setN [v'] i t)))) p (cs.set i v') (L.set i r) := by
 have hpl := h.pl
 obtain ⟨t', b1, b2⟩ := h.box
 rw [ht] at b1
 injection b1 with b1
 injection b1 with _ _ b1
 subst b1
 have keep : ∀ {sz : Nat} {w : MV} {es : List (List MV)}, OwnRow lo M sz w es → obj w ≠ some p → OwnRow lo (M.set p (some (.cs false cs.length (setN [v'] i t)))) sz w es := fun ho hp => own_keep ho (by rw [set_n]; exact Nat.le_refl _) fun q hq => set_ne fun e' => hp (by rw [hq, e'])
 refine ⟨⟨_, by rw [List.length_set]; exact set_same _ _, b2.set' i v' hi (by omega)⟩, ⟨hpl.1, by rw [set_n]; exact hpl.2⟩, fun j sz es hj => ?_, fun a b x' y' w1 w2 id' hab ha hb c1 c2 d1 => ?_⟩
 ·rcases set_ls hj with ⟨rfl, hj'⟩ | ⟨hji, hj⟩
  ·obtain ⟨k1, k2, _⟩ := hr sz es hj'.symm
   exact ⟨v', by rw [List.getElem?_set, if_pos rfl, if_pos hi], keep k1 k2, k2⟩
  ·obtain ⟨w, k1, k2, k3⟩ := h.row j sz es hj
   exact ⟨w, by rw [List.getElem?_set, if_neg (fun e => hji e.symm)]; exact k1, keep k2 k3, k3⟩
 ·rcases set_ls ha with ⟨ea, ha'⟩ | ⟨hai, ha'⟩ <;> rcases set_ls hb with ⟨eb, hb'⟩ | ⟨hbi, hb'⟩
  ·exact absurd (ea.trans eb.symm) hab
  ·subst ea
   rcases set_ls c1 with ⟨_, rfl⟩ | ⟨c, _⟩
   ·rcases set_ls c2 with ⟨c, _⟩ | ⟨_, c2'⟩
    ·exact absurd c hbi
    ·obtain ⟨_, _, k3⟩ := hr x'.1 x'.2 ha'.symm
     exact fun e => k3 b _ _ _ hbi hb' c2' e d1
   ·exact absurd rfl c
  ·subst eb
   rcases set_ls c2 with ⟨_, rfl⟩ | ⟨c, _⟩
   ·rcases set_ls c1 with ⟨c, _⟩ | ⟨_, c1'⟩
    ·exact absurd c hai
    ·obtain ⟨_, _, k3⟩ := hr y'.1 y'.2 hb'.symm
     exact k3 a _ _ _ hai ha' c1' d1
   ·exact absurd rfl c
  ·rcases set_ls c1 with ⟨c, _⟩ | ⟨_, c1'⟩
   ·exact absurd c hai
   ·rcases set_ls c2 with ⟨c, _⟩ | ⟨_, c2'⟩
    ·exact absurd c hbi
    ·exact h.apart _ _ _ _ _ _ _ hab ha' hb' c1' c2' d1
theorem OO.app (h : OO lo M p cs L) {i sz bytes : Nat} {es : List (List MV)} (e : L[i]? = some (some (sz, es))) {v : MV} (hv : cs[i]? = some v) (hlo : M.lo ≤ lo) (hln : lo ≤ M.n) {x : List MV} (hx : x.length = sz) (ho : allOne x = true) (hb : (es.length + 1) * bytes ≤ 140737488355328) (hl : es.length + 1 ≤ 9223372036854775807) :
  ∃ v' M' t, appM (M.push (.cs false sz (ofL x 0))) sz bytes v (.sl M.n 0 1 0) = some (v', M') ∧ isSl v' = true ∧ obj v' = some (M.n + 1) ∧ M'.get p = some (.cs false cs.length t) ∧ hasB t 1 i = true ∧ M.n + 1 ≤ M'.n ∧ M'.lo = M.lo ∧ (∀ j, j < M.n → obj v ≠ some j → M'.get j = M.get j) ∧ OO lo (M'.set p (some (.cs false cs.length (setN [v'] i t)))) p (cs.set i v') (L.set i (some (sz, es ++ [x]))) := by
 obtain ⟨hown, hp⟩ := h.get e hv
 obtain ⟨v', M', a, b, c, d, e5, e6, e7⟩ := app_obj (bytes := bytes) hown hlo hln hx ho hb hl
 obtain ⟨t, b1, b2⟩ := h.box
 have hpl := h.pl
 have hil := (List.getElem?_eq_some_iff.1 hv).1
 have hg : M'.get p = some (.cs false cs.length t) := (e7 p hpl.2 hp).trans b1
 have h2 : OO lo M' p cs (L.set i none) := by
  refine ⟨⟨t, hg, b2⟩, ⟨hpl.1, by omega⟩, fun j sz' es' hj => ?_, fun a' b' x' y' w1 w2 id' hab ha hb' => ?_⟩
  ·rcases set_ls hj with ⟨_, hj⟩ | ⟨hji, hj⟩
   ·cases hj
   ·obtain ⟨w, k1, k2, k3⟩ := h.row j sz' es' hj
    refine ⟨w, k1, own_keep k2 (by omega) fun q hq => ?_, k3⟩
    obtain ⟨_, q2, _⟩ := own_obj k2 hq
    exact e7 q q2 fun e' => h.apart i j _ _ _ _ _ (fun e => hji e.symm) e hj hv k1 e' hq
  ·rcases set_ls ha with ⟨_, ha⟩ | ⟨_, ha⟩
   ·cases ha
   ·rcases set_ls hb' with ⟨_, hb'⟩ | ⟨_, hb'⟩
    ·cases hb'
    ·exact h.apart _ _ _ _ _ _ _ hab ha hb'
 refine ⟨v', M', t, a, e6, e5, hg, has_at b2 (Nat.zero_le _) (by omega), c, d, e7, ?_⟩
 have h3 := h2.fld (i := i) (v' := v') hil (r := some (sz, es ++ [x])) (fun sz' es' hr => by
  injection hr with hr
  injection hr with hr1 hr2
  subst hr1 hr2
  refine ⟨b, fun e' => ?_, fun j y w id hji hj hw hq => ?_⟩
  ·rw [e5] at e'
   injection e' with e'
   omega
  ·rcases set_ls hj with ⟨h', _⟩ | ⟨_, hj⟩
   ·exact absurd h' hji
   ·obtain ⟨w', k1, k2, _⟩ := h.row j y.1 y.2 hj
    rw [hw] at k1
    injection k1 with k1
    subst k1
    obtain ⟨_, q2, _⟩ := own_obj k2 hq
    rw [e5]
    intro e'
    injection e' with e'
    omega) hg (isSl_cells e6)
 rwa [List.set_set] at h3
end
end Go.Proofs.YtpdcahaggacacaaDoor.K
set_option linter.unusedSimpArgs false
set_option linter.unusedVariables false
namespace Go.Proofs.YtpdcahaggacacaaDoor.Ev
open Go
structure DInv (g : Gr) (S : Nat → Prop) (out work : List Nat) (x i : Nat) : Prop where
 sub : ∀ n, S n → n ∈ out ∨ n ∈ work
 sndO : ∀ n ∈ out, InC g S n
 sndW : ∀ n ∈ work, InC g S n
 ris : Ris out
 cls : ∀ n ∈ out, ∀ s, behN g n = some s → ∀ i' r, g.rules[i']? = some r → r.1 = s → (n = x → i' < i) → (i' + 1) * 9 ∈ out ∨ (i' + 1) * 9 ∈ work
theorem DInv.start {g : Gr} {S : Nat → Prop} {work : List Nat} (h : ∀ n, n ∈ work ↔ S n) (x i : Nat) : DInv g S [] work x i := ⟨fun n hn => .inr ((h n).2 hn), fun n hn => (by simp at hn), fun n hn => .base ((h n).1 hn), List.Pairwise.nil, fun n hn => (by simp at hn)⟩
theorem DInv.take {g : Gr} {S : Nat → Prop} {out work ins : List Nat} {x n i : Nat} (h : DInv g S out (n :: work) x i) (hi : ∀ i' r, g.rules[i']? = some r → i' < i) (hr : Ris ins) (hm : ∀ m, m ∈ ins ↔ m = n ∨ m ∈ out) (hn : n ∉ out) : DInv g S ins work n 0 := by
 refine ⟨fun m hm' => ?_, fun m hm' => ?_, fun m hm' => h.sndW m (List.mem_cons_of_mem _ hm'), hr, fun m hm' s hs i' r hr' hl hlt => ?_⟩
 ·rcases h.sub m hm' with e | e
  ·exact .inl ((hm m).2 (.inr e))
  ·rcases List.mem_cons.1 e with e | e
   ·exact .inl ((hm m).2 (.inl e))
   ·exact .inr e
 ·rcases (hm m).1 hm' with e | e
  ·rw [e]; exact h.sndW n List.mem_cons_self
  ·exact h.sndO m e
 ·rcases (hm m).1 hm' with e | e
  ·have := hlt e; omega
  ·rcases h.cls m e s hs i' r hr' hl (fun _ => hi i' r hr') with e | e
   ·exact .inl ((hm _).2 (.inr e))
   ·rcases List.mem_cons.1 e with e | e
    ·exact .inl ((hm _).2 (.inl e))
    ·exact .inr e
theorem DInv.twice {g : Gr} {S : Nat → Prop} {out work ins : List Nat} {x n i : Nat} (h : DInv g S out (n :: work) x i) (hr : Ris ins) (hm : ∀ m, m ∈ ins ↔ m = n ∨ m ∈ out) (hn : n ∈ out) : DInv g S ins work x i := by
 have he : ins = out := ris_ext hr h.ris fun m => by
  rw [hm]
  exact ⟨fun e => e.elim (fun e => by rw [e]; exact hn) id, .inr⟩
 subst he
 refine ⟨fun m hm' => ?_, h.sndO, fun m hm' => h.sndW m (List.mem_cons_of_mem _ hm'), hr, fun m hm' s hs i' r hr' hl hlt => ?_⟩
 ·rcases h.sub m hm' with e | e
  ·exact .inl e
  ·rcases List.mem_cons.1 e with e | e
   ·rw [e]; exact .inl hn
   ·exact .inr e
 ·rcases h.cls m hm' s hs i' r hr' hl hlt with e | e
  ·exact .inl e
  ·rcases List.mem_cons.1 e with e | e
   ·rw [e]; exact .inl hn
   ·exact .inr e
theorem DInv.bare {g : Gr} (hg : GrOk g) {S : Nat → Prop} {out work : List Nat} {x i : Nat} (h : DInv g S out work x 0) (hb : ∀ s, behN g x = some s → s < 0) (y : Nat) (hi : ∀ i' r, g.rules[i']? = some r → i' < i) : DInv g S out work y i := ⟨h.sub, h.sndO, h.sndW, h.ris, fun m hm s hs i' r hr hl _ => by
 by_cases e : m = x
 ·subst e
  have := hb s hs
  have := (hg.left r (List.mem_of_getElem? hr)).1
  omega
 ·exact h.cls m hm s hs i' r hr hl fun e' => absurd e' e⟩
theorem DInv.any {g : Gr} {S : Nat → Prop} {out work : List Nat} {x i : Nat} (h : DInv g S out work x i) (hi : ∀ i' r, g.rules[i']? = some r → i' < i) (y j : Nat) : DInv g S out work y j := ⟨h.sub, h.sndO, h.sndW, h.ris, fun m hm s hs i' r hr hl _ => h.cls m hm s hs i' r hr hl fun _ => hi i' r hr⟩
theorem DInv.rule {g : Gr} {S : Nat → Prop} {out work : List Nat} {x i : Nat} {s : Int} {r : Int × List Int × Int} (h : DInv g S out work x i) (hx : InC g S x) (hb : behN g x = some s) (hr : g.rules[i]? = some r) (hl : r.1 = s) : DInv g S out (work ++ [(i + 1) * 9]) x (i + 1) := ⟨fun m hm => (h.sub m hm).imp id (List.mem_append_left _), h.sndO, fun m hm => (List.mem_append.1 hm).elim (h.sndW m) fun e => by rw [List.mem_singleton.1 e]; exact .step hx hb hr hl, h.ris, fun m hm s' hs i' r' hr' hl' hlt => by
 by_cases e : m = x ∧ i' = i
 ·exact .inr (List.mem_append_right _ (by rw [e.2]; exact List.mem_singleton.2 rfl))
 ·exact (h.cls m hm s' hs i' r' hr' hl' fun e' => by have := hlt e'; omega).imp id (List.mem_append_left _)⟩
theorem DInv.other {g : Gr} {S : Nat → Prop} {out work : List Nat} {x i : Nat} {s : Int} (h : DInv g S out work x i) (hb : behN g x = some s) (ho : ∀ r, g.rules[i]? = some r → r.1 ≠ s) : DInv g S out work x (i + 1) := ⟨h.sub, h.sndO, h.sndW, h.ris, fun m hm s' hs i' r' hr' hl' hlt => h.cls m hm s' hs i' r' hr' hl' fun e => by
 have := hlt e
 rcases Nat.lt_or_ge i' i with e' | e'
 ·exact e'
 ·have : i' = i := by omega
  subst this
  subst e
  rw [hb] at hs
  injection hs with hs
  exact absurd (hl'.trans hs.symm) (ho r' hr')⟩
theorem DInv.fin {g : Gr} {S : Nat → Prop} {out : List Nat} {x i : Nat} (h : DInv g S out [] x i) (hi : ∀ i' r, g.rules[i']? = some r → i' < i) (n : Nat) : n ∈ out ↔ InC g S n := by
 refine ⟨h.sndO n, fun hn => ?_⟩
 induction hn with
 | base hn => exact (h.sub _ hn).elim id fun e => (by simp at e)
 | @step n i' s r hn hb hr hl ih => exact (h.cls n ih s hb i' r hr hl fun _ => hi i' r hr).elim id fun e => (by simp at e)
end Go.Proofs.YtpdcahaggacacaaDoor.Ev
set_option linter.unusedSimpArgs false
set_option linter.unusedVariables false
namespace Go.Proofs.YtpdcahaggacacaaDoor.Ev
open Go
structure CInv (g : Gr) (S : Nat → Prop) (W : Nat) (todo : List Nat) (seen : List Bool) (k i : Nat) : Prop where
 sub : ∀ n, S n → W.testBit n = true
 snd : ∀ n, W.testBit n = true → InC g S n
 tin : ∀ n ∈ todo, W.testBit n = true
 cls : ∀ n, W.testBit n = true → n ∈ todo ∨ ∀ s, behN g n = some s → s < 0 ∨ seen[s.toNat]? = some true
 sn : ∀ k' : Nat, seen[k']? = some true → ∀ i' r, g.rules[i']? = some r → r.1 = (k' : Int) → (k' = k → i' < i) → W.testBit ((i' + 1) * 9) = true
theorem CInv.start {g : Gr} {S : Nat → Prop} {N : Nat} (h : ∀ n, N.testBit n = true ↔ S n) {todo : List Nat} (ht : ∀ n, n ∈ todo ↔ N.testBit n = true) (m k i : Nat) : CInv g S N todo (List.replicate m false) k i := ⟨fun n hn => (h n).2 hn, fun n hn => .base ((h n).1 hn), fun n hn => (ht n).1 hn, fun n hn => .inl ((ht n).2 hn), fun k' hk => by
 rw [List.getElem?_replicate] at hk
 split at hk <;> simp at hk⟩
theorem CInv.skip {g : Gr} {S : Nat → Prop} {W : Nat} {todo : List Nat} {seen : List Bool} {k i n : Nat} (h : CInv g S W (todo ++ [n]) seen k i) (hn : ∀ s, behN g n = some s → s < 0 ∨ seen[s.toNat]? = some true) : CInv g S W todo seen k i := ⟨h.sub, h.snd, fun m hm => h.tin m (List.mem_append_left _ hm), fun m hm => (h.cls m hm).elim (fun e => (List.mem_append.1 e).elim .inl fun e => .inr (by rw [List.mem_singleton.1 e]; exact hn)) .inr, h.sn⟩
theorem CInv.name {g : Gr} {S : Nat → Prop} {W : Nat} {todo : List Nat} {seen : List Bool} {k i n s : Nat} (h : CInv g S W (todo ++ [n]) seen k i) (hi : ∀ i' r, g.rules[i']? = some r → i' < i) (hb : behN g n = some (s : Int)) (hs : seen[s]? = some false) : CInv g S W todo (seen.set s true) s 0 := by
 have hsl := (List.getElem?_eq_some_iff.1 hs).1
 have get : ∀ j, (seen.set s true)[j]? = some true ↔ j = s ∨ seen[j]? = some true := fun j => by
  rw [List.getElem?_set]
  by_cases e : s = j
  ·subst e; rw [if_pos rfl, if_pos hsl]; simp
  ·rw [if_neg e]
   exact ⟨.inr, fun h => h.elim (fun e' => absurd e'.symm e) id⟩
 refine ⟨h.sub, h.snd, fun m hm => h.tin m (List.mem_append_left _ hm), fun m hm => ?_, fun k' hk i' r hr hl hlt => ?_⟩
 ·rcases h.cls m hm with e | e
  ·rcases List.mem_append.1 e with e | e
   ·exact .inl e
   ·rw [List.mem_singleton.1 e]
    refine .inr fun s' hs' => ?_
    rw [hb] at hs'
    injection hs' with hs'
    subst hs'
    exact .inr ((get _).2 (.inl (Int.toNat_natCast s)))
  ·exact .inr fun s' hs' => (e s' hs').imp id fun e => (get _).2 (.inr e)
 ·rcases (get k').1 hk with e | e
  ·have := hlt e; omega
  ·exact h.sn k' e i' r hr hl fun _ => hi i' r hr
theorem CInv.rule {g : Gr} {S : Nat → Prop} {W : Nat} {todo : List Nat} {seen : List Bool} {k i n : Nat} {r : Int × List Int × Int} (h : CInv g S W todo seen k i) (hn : InC g S n) (hb : behN g n = some (k : Int)) (hr : g.rules[i]? = some r) (hl : r.1 = (k : Int)) : CInv g S (W ||| 2 ^ ((i + 1) * 9)) (todo ++ [(i + 1) * 9]) seen k (i + 1) := by
 have bit : ∀ m, (W ||| 2 ^ ((i + 1) * 9)).testBit m = true ↔ W.testBit m = true ∨ m = (i + 1) * 9 := fun m => by
  rw [Nat.testBit_or, Nat.testBit_two_pow, Bool.or_eq_true, decide_eq_true_eq]
  exact ⟨fun h => h.imp id Eq.symm, fun h => h.imp id Eq.symm⟩
 refine ⟨fun m hm => (bit m).2 (.inl (h.sub m hm)), fun m hm => ?_, fun m hm => ?_, fun m hm => ?_, fun k' hk i' r' hr' hl' hlt => (bit _).2 ?_⟩
 ·rcases (bit m).1 hm with e | e
  ·exact h.snd m e
  ·rw [e]; exact .step hn hb hr hl
 ·rcases List.mem_append.1 hm with e | e
  ·exact (bit m).2 (.inl (h.tin m e))
  ·exact (bit m).2 (.inr (List.mem_singleton.1 e))
 ·rcases (bit m).1 hm with e | e
  ·exact (h.cls m e).imp (List.mem_append_left _) id
  ·exact .inl (List.mem_append_right _ (List.mem_singleton.2 e))
 ·by_cases e : k' = k ∧ i' = i
  ·exact .inr (by rw [e.2])
  ·exact .inl (h.sn k' hk i' r' hr' hl' fun ek => by have := hlt ek; omega)
theorem CInv.other {g : Gr} {S : Nat → Prop} {W : Nat} {todo : List Nat} {seen : List Bool} {k i : Nat} (h : CInv g S W todo seen k i) (ho : ∀ r, g.rules[i]? = some r → r.1 ≠ (k : Int)) : CInv g S W todo seen k (i + 1) := ⟨h.sub, h.snd, h.tin, h.cls, fun k' hk i' r hr hl hlt => h.sn k' hk i' r hr hl fun ek => by
 have := hlt ek
 rcases Nat.lt_or_ge i' i with e | e
 ·exact e
 ·have : i' = i := by omega
  subst this
  subst ek
  exact absurd hl (ho r hr)⟩
theorem CInv.any {g : Gr} {S : Nat → Prop} {W : Nat} {todo : List Nat} {seen : List Bool} {k i : Nat} (h : CInv g S W todo seen k i) (hi : ∀ i' r, g.rules[i']? = some r → i' < i) (k2 i2 : Nat) : CInv g S W todo seen k2 i2 := ⟨h.sub, h.snd, h.tin, h.cls, fun k' hk i' r hr hl _ => h.sn k' hk i' r hr hl fun _ => hi i' r hr⟩
theorem CInv.fin {g : Gr} (hg : GrOk g) {S : Nat → Prop} {W : Nat} {seen : List Bool} {k i : Nat} (h : CInv g S W [] seen k i) (hi : ∀ i' r, g.rules[i']? = some r → i' < i) (n : Nat) : W.testBit n = true ↔ InC g S n := by
 refine ⟨h.snd n, fun hn => ?_⟩
 induction hn with
 | base hn => exact h.sub _ hn
 | @step n i' s r hn hb hr hl ih =>
  rcases h.cls n ih with e | e
  ·simp at e
  ·have hle := (hg.left r (List.mem_of_getElem? hr)).1
   rcases e s hb with e | e
   ·omega
   ·exact h.sn _ e i' r hr (by rw [hl]; omega) fun _ => hi i' r hr
theorem beh_sym {g : Gr} (hg : GrOk g) {n : Nat} {s : Int} (h : behN g n = some s) (h0 : 0 ≤ s) : s.toNat < g.names.toNat := by
 have h2 := hg.s2
 have h1 := hg.s1
 unfold behN at h
 obtain ⟨l, hl, hs⟩ := Option.bind_eq_some_iff.1 h
 unfold rightN at hl
 split at hl
 ·injection hl with hl
  subst hl
  have := (List.getElem?_eq_some_iff.1 hs).1
  have e : n % 9 = 0 := by simpa using this
  rw [e] at hs
  simp at hs
  omega
 ·obtain ⟨r, hr, rfl⟩ := Option.map_eq_some_iff.1 hl
  have := hg.sym r (List.mem_of_getElem? hr) s (List.mem_of_getElem? hs)
  unfold symB at this
  rw [if_neg (by omega), decide_eq_true_iff] at this
  omega
theorem beh_kind {g : Gr} (hg : GrOk g) {n : Nat} {s : Int} (h : behN g n = some s) : -g.kinds ≤ s ∧ s < g.names := by
 have h2 := hg.s2
 have h1 := hg.s1
 have hk := hg.k1
 have hn := hg.n1
 unfold behN at h
 obtain ⟨l, hl, hs⟩ := Option.bind_eq_some_iff.1 h
 unfold rightN at hl
 split at hl
 ·injection hl with hl
  subst hl
  have := (List.getElem?_eq_some_iff.1 hs).1
  have e : n % 9 = 0 := by simpa using this
  rw [e] at hs
  simp at hs
  omega
 ·obtain ⟨r, hr, rfl⟩ := Option.map_eq_some_iff.1 hl
  have := hg.sym r (List.mem_of_getElem? hr) s (List.mem_of_getElem? hs)
  unfold symB at this
  split at this <;> rw [decide_eq_true_iff] at this <;> omega
end Go.Proofs.YtpdcahaggacacaaDoor.Ev
set_option linter.unusedSimpArgs false
set_option linter.unusedVariables false
namespace Go.Proofs.YtpdcahaggacacaaDoor.K
open Go Ev
set_option maxRecDepth 100000
set_option maxHeartbeats 4000000

theorem push4 {M M2 : MH} {a b c d : MO} (h : (((M.push a).push b).push c).push d = M2) : Ext M M2 ∧ M2.n = M.n + 4 ∧ M2.get M.n = some a ∧ M2.get (M.n + 1) = some b ∧ M2.get (M.n + 1 + 1) = some c ∧ M2.get (M.n + 1 + 1 + 1) = some d := by
 subst h
 refine ⟨(((Ext.push M _).trans (.push _ _)).trans (.push _ _)).trans (.push _ _), rfl, ?_, ?_, ?_, push_new (M := ((M.push _).push _).push _) _⟩
 ·rw [push_old (by show M.n < M.n + 3; omega), push_old (by show M.n < M.n + 2; omega), push_old (by show M.n < M.n + 1; omega)]; exact push_new _
 ·rw [push_old (by show M.n + 1 < M.n + 3; omega), push_old (by show M.n + 1 < M.n + 2; omega)]; exact push_new (M := M.push _) _
 ·rw [push_old (by show M.n + 1 + 1 < M.n + 3; omega)]; exact push_new (M := (M.push _).push _) _
theorem own_idI {lo : Nat} {M : MH} {sz : Nat} {v : MV} {es : List (List MV)} (h : OwnRow lo M sz v es) {a b n d : Nat} (e : v = .sl a b n d) : ∃ c, M.get a = some (.cs false sz c) ∧ lo ≤ a ∧ a < M.n := by
 obtain ⟨_, ⟨h1, _⟩ | ⟨id, c, h1, h2, h3, h4, _⟩⟩ := h
 ·rw [e] at h1; cases h1
 ·rw [e] at h1
  injection h1 with h1
  subst h1
  exact ⟨c, h2, h3, h4⟩
theorem own_take {lo : Nat} {M : MH} {sz : Nat} {v : MV} {es : List (List MV)} {i : Nat} (h : OwnRow lo M sz v es) (hi : i ≤ es.length) : OwnRow lo M sz (cutHi i v) (es.take i) := by
 obtain ⟨hs, ⟨rfl, h2⟩ | ⟨id, c, rfl, h2, h3, h4, h5⟩⟩ := h
 ·rw [h2]; exact ⟨fun x hx => (by simp at hx), .inl ⟨rfl, by simp⟩⟩
 ·refine ⟨fun x hx => hs x (List.mem_of_mem_take hx), .inr ⟨id, c, ?_, h2, h3, h4, ?_⟩⟩
  ·show MV.sl id 0 i 0 = _
   rw [List.length_take, Nat.min_eq_left (by omega)]
  ·rw [← List.take_append_drop i es, List.flatten_append] at h5
   exact h5.left
structure CSt (M0 M' : MH) (gl : List MV) (W : Nat) (todo : List Nat) (seen : List Bool) (v : MV) : Prop where
 ext : Ext M0 M'
 n : M0.n + 4 ≤ M'.n
 gA : M'.get M0.n = some (.cs false 7 (ofL gl 0))
 gB : ∃ c, M'.get (M0.n + 1) = some (.cs false 9 c) ∧ At c 0 (st9 W)
 gC : ∃ c, M'.get (M0.n + 1 + 1) = some (.cs false 9 c) ∧ hasB c 9 0 = true
 gD : ∃ c, M'.get (M0.n + 1 + 1 + 1) = some (.cs false 40 c) ∧ At c 0 (seen.map MV.b)
 row : OwnRow (M0.n + 4) M' 2 v (ivs todo)
theorem CSt.grow {M0 M1 M2 : MH} {gl : List MV} {W : Nat} {todo : List Nat} {seen : List Bool} {v : MV} (h : CSt M0 M1 gl W todo seen v) (x : Ext M1 M2) : CSt M0 M2 gl W todo seen v := by
 have hn := h.n
 have xn := x.n
 obtain ⟨cB, b1, b2⟩ := h.gB
 obtain ⟨cC, c1, c2⟩ := h.gC
 obtain ⟨cD, d1, d2⟩ := h.gD
 exact ⟨h.ext.trans x, by omega, (x.old _ (by omega)).trans h.gA, ⟨cB, (x.old _ (by omega)).trans b1, b2⟩, ⟨cC, (x.old _ (by omega)).trans c1, c2⟩, ⟨cD, (x.old _ (by omega)).trans d1, d2⟩, h.row.ext x⟩
theorem CSt.put {M0 M1 M2 : MH} {gl : List MV} {W n : Nat} {todo : List Nat} {seen : List Bool} {v : MV} (h : CSt M0 M1 gl W todo seen v) (hb : ∃ c, M2.get (M0.n + 1) = some (.cs false 9 c) ∧ At c 0 (st9 n)) (x : Chg (fun j => j = M0.n + 1) M1 M2) : CSt M0 M2 gl n todo seen v := by
 have hn := h.n
 have xn := x.n
 obtain ⟨cC, c1, c2⟩ := h.gC
 obtain ⟨cD, d1, d2⟩ := h.gD
 refine ⟨⟨by have := h.ext.n; omega, by rw [x.lo]; exact h.ext.lo, fun j hj => (x.old j (by omega) (by omega)).trans (h.ext.old j hj)⟩, by omega, (x.old _ (by omega) (by omega)).trans h.gA, hb, ⟨cC, (x.old _ (by omega) (by omega)).trans c1, c2⟩, ⟨cD, (x.old _ (by omega) (by omega)).trans d1, d2⟩, h.row.keep xn fun a b n d e => ?_⟩
 obtain ⟨c, _, q2, q3⟩ := own_idI h.row e
 exact x.old a q3 (by omega)
theorem CSt.mark {M0 M1 : MH} {gl : List MV} {W k : Nat} {todo : List Nat} {seen : List Bool} {v : MV} {c : T MV} (h : CSt M0 M1 gl W todo seen v) (hc : M1.get (M0.n + 1 + 1 + 1) = some (.cs false 40 c)) (hat : At c 0 (seen.map MV.b)) (hk : k < seen.length) : CSt M0 (M1.set (M0.n + 1 + 1 + 1) (some (.cs false 40 (setN (MV.b true).cells (k * 1) c)))) gl W todo (seen.set k true) v := by
 have hn := h.n
 obtain ⟨cB, b1, b2⟩ := h.gB
 obtain ⟨cC, c1, c2⟩ := h.gC
 refine ⟨h.ext.set _ (by omega), hn, (set_ne (by omega)).trans h.gA, ⟨cB, (set_ne (by omega)).trans b1, b2⟩, ⟨cC, (set_ne (by omega)).trans c1, c2⟩, ⟨_, set_same _ _, ?_⟩, h.row.keep (Nat.le_refl _) fun a b n d e => ?_⟩
 ·rw [List.map_set]
  exact hat.set' k _ (by rw [List.length_map]; exact hk) (by omega)
 ·obtain ⟨c, _, q2, q3⟩ := own_idI h.row e
  exact set_ne (by omega)
theorem CSt.app {M0 M1 M2 : MH} {gl : List MV} {W : Nat} {todo t2 : List Nat} {seen : List Bool} {v v2 : MV} (h : CSt M0 M1 gl W todo seen v) (hn : M1.n ≤ M2.n) (hl : M2.lo = M1.lo) (ho : ∀ j, j < M0.n + 4 → j < M1.n → M2.get j = M1.get j) (hr : OwnRow (M0.n + 4) M2 2 v2 (ivs t2)) : CSt M0 M2 gl W t2 seen v2 := by
 have hn' := h.n
 obtain ⟨cB, b1, b2⟩ := h.gB
 obtain ⟨cC, c1, c2⟩ := h.gC
 obtain ⟨cD, d1, d2⟩ := h.gD
 exact ⟨⟨by have := h.ext.n; omega, by rw [hl]; exact h.ext.lo, fun j hj => (ho j (by omega) (by omega)).trans (h.ext.old j hj)⟩, by omega, (ho _ (by omega) (by omega)).trans h.gA, ⟨cB, (ho _ (by omega) (by omega)).trans b1, b2⟩, ⟨cC, (ho _ (by omega) (by omega)).trans c1, c2⟩, ⟨cD, (ho _ (by omega) (by omega)).trans d1, d2⟩, hr⟩
theorem closed_any {M : MH} {g : Gr} {vr vf vc vk : MV} {es : List (List MV)} {N : Nat} (h : GrAt M vr vf vc vk es g) (hz : (formP g).2 = 0) (hN : ∀ n, N.testBit n = true → IsN g n) (hlo : M.lo ≤ M.n) : Cp fns 18 [.ag (gcs g vr vf vc vk), .ag (st9 N)] M fun m M' => Ext M M' ∧ ∃ W, m = .ag (st9 W) ∧ ClsN g (fun n => N.testBit n = true) W := by
 have hok := form_ok hz
 have h60 := hok.rl
 refine Cp_call (fn := F18) (by kernel_rfl) (Nat.le_of_ble_eq_true rfl) ?_
 show Wp fns B18 (T.set q1 (some (.ag (st9 N))) (T.set q0 (some (.ag (gcs g vr vf vc vk))) T.lf)) M _
 unfold B18
 have hU : ∀ N, isU (.ag (st9 N)) = false := fun _ => rfl
 have hcl : ∀ N, MV.cells (.ag (st9 N)) = st9 N := fun _ => rfl
 have hG9 : ∀ N, Ev.getN (ofL (st9 N) 0) 9 0 = some (st9 N) := fun N => (at_ofL (st9 N)).getN
 have hP : ∀ a b, ((M.push a).push b).get (M.n + 1) = some b := fun a b => push_new (M := M.push a) b
 simp (disch := try exact dz) only [↓bxD, bA, simprocAttr, g_len, hU, hcl, st9_len, hG9, hP]
 generalize hM1 : (((M.push _).push _).push _).push _ = M1
 obtain ⟨x1, n1, gA, gB, gC, gD⟩ := push4 hM1
 have l1 := x1.lo
 have h1 : CSt M M1 (gcs g vr vf vc vk) N [] (List.replicate 40 false) .nils := ⟨x1, by omega, gA, ⟨_, gB, at_ofL _⟩, ⟨_, gC, has_at (at_ofL _) (Nat.le_refl _) (by simp only [List.length_cons, List.length_nil]; omega)⟩, ⟨_, gD, at_ofL _⟩, OwnRow.nil _ _ _⟩
 clear hM1 gA gB gC gD
 refine bindP_call (list_any (N := N) (h.tb.ext h1.ext) (by omega)) ?_
 rintro m M2 ⟨x2, hr2⟩
 rw [n1] at hr2
 have x2n := x2.n
 have h2 : CSt M M2 (gcs g vr vf vc vk) N (bitsOf N 576) (List.replicate 40 false) m := (h1.grow x2).app (Nat.le_refl _) rfl (fun _ _ _ => rfl) hr2
 have hS : ∀ n, InC g (fun n => N.testBit n = true) n → n < 549 := fun n hn => (hn.is hN).lt hok h60
 have hri : ∀ i' r, g.rules[i']? = some r → i' < g.rules.length := fun i' r hr => (List.getElem?_eq_some_iff.1 hr).1
 simp (disch := try exact dz) only [↓bxD, bA, simprocAttr]
 refine Wp_inv (σ := Nat × List Nat × List Bool) (fun s f M' => CInv g (fun n => N.testBit n = true) s.1 s.2.1 s.2.2 0 g.rules.length ∧ s.2.2.length = 40 ∧ 61 * falses s.2.2 + s.2.1.length ≤ 3016 ∧ X.ev f (.t q2) = .p M.n 0 ∧ X.ev f (.t q3) = .p (M.n + 1) 0 ∧ f.get q4 = some (.p (M.n + 1 + 1) 0) ∧ X.ev f (.t q5) = .p (M.n + 1 + 1 + 1) 0 ∧ ∃ v, X.ev f (.t q6) = v ∧ CSt M M' (gcs g vr vf vc vk) s.1 s.2.1 s.2.2 v) (fun s => 61 * falses s.2.2 + s.2.1.length) ?_ (N, bitsOf N 576, List.replicate 40 false) ?_
 ·rintro ⟨W, todo, seen⟩ f M3 ⟨hI, hsl, hms, k2, k3, k4, k5, v, k6, hC⟩
  simp only at hI hsl hms hC
  simp only [q2, q3, q4, q5, q6] at k2 k3 k4 k5 k6
  have hCn := hC.n
  have hCx := hC.ext
  have xl := hCx.lo
  obtain ⟨s1, s2⟩ := hC.row.row.sl
  rw [ivs_len] at s2
  unfold L18_5
  rcases List.eq_nil_or_concat todo with rfl | ⟨t', n, htd⟩
  ·have d0 : decide ((0 : Int) < ((0 : Nat) : Int)) = false := rfl
   have s2 : slen v = 0 := s2
   have hget : X.ev f (.t (Ky.k1 Dg.d4)) = .p (M.n + 1 + 1) 0 := by
    show (match f.get (Ky.k1 Dg.d4) with | some m => m | none => .u) = _
    rw [k4]
   obtain ⟨cB, b1, b2⟩ := hC.gB
   obtain ⟨cC, c1, c2⟩ := hC.gC
   have hb9 : Ev.getN cB 9 0 = some (st9 W) := b2.getN
   have hst : stOk 9 (.ag (st9 W)) = true := rfl
   have hcW : MV.cells (.ag (st9 W)) = st9 W := rfl
   simp (disch := try exact dz) only [↓bxD, bA, reduceCtorEq, k6, s2, d0]
   show Wp fns K18_6 _ _ _
   unfold K18_6
   simp (disch := try exact dz) only [↓bxD, bA, simprocAttr, k3, hget, b1, c1, hb9, hcW]
   have hres : Ev.getN (setN (st9 W) 0 cC) 9 0 = some (st9 W) := (at_setN _ _ _).getN
   simp (disch := try exact dz) only [bA, simprocAttr, res_cN, get_set, k4, cNV_p, cNo_cs, hres]
   exact ⟨hCx.set _ (by omega), W, rfl, fun i hi => hS i (hI.snd i hi), hI.fin hok hri⟩
  ·rw [List.concat_eq_append] at htd
   subst htd
   have s2 : slen v = t'.length + 1 := by rw [s2, List.length_append]; rfl
   have hnW := hI.tin n (List.mem_append_right _ (List.mem_singleton.2 rfl))
   have hnI := (hI.snd n hnW).is hN
   have hn549 := hnI.lt hok h60
   have d0 : decide ((0 : Int) < ((t'.length + 1 : Nat) : Int)) = true := decide_eq_true (by omega)
   have hlen : t'.length ≤ 3016 := by rw [List.length_append] at hms; omega
   have w1 : wrapF .i64 (((t'.length + 1 : Nat) : Int) - 1) = (t'.length : Int) := by rw [wrap_in (by omega) (by omega)]; omega
   have hat : (ivs (t' ++ [n]))[t'.length]? = some (itc n) := ivs_at (by rw [List.getElem?_append_right (Nat.le_refl _), Nat.sub_self]; rfl)
   obtain ⟨ro, sz, t, hg, hid, hC2⟩ := hC.row.row.read hat
   have hN2 : Ev.getN t 2 (soff v + t'.length * 2) = some (itc n) := hC2.getN
   have hc1 : cutM 2 v none (some (.i .i64 (t'.length : Int))) = some (cutHi t'.length v) := cutM_hi s1 (by omega)
   have htl : t'.length < t'.length + 1 := Nat.lt_succ_self _
   have hst := @i_st n
   have c7 : Ev.getN (setN (itc n) 0 (ofL [.i .i64 0, .i .i64 0] 0)) 2 0 = some (itc n) := (at_setN _ _ _).getN
   have gA3 := hC.gA
   simp (disch := try exact dz) only [↓bxD, bA, simprocAttr, k6, s2, d0]
   show Wp fns K18_4 _ _ _
   unfold K18_4
   simp (disch := try exact dz) only [↓bxD, bA, simprocAttr, k2, k6, s2, w1, hg, hN2, hc1, gA3, g_N, c7, Option.map_none, Option.map_some]
   generalize hM4 : (M3.push _).set M3.n _ = M4
   have x4 : Ext M3 M4 := by rw [← hM4]; exact (Ext.push M3 _).set _ (Nat.le_refl _)
   have n4 : M4.n = M3.n + 1 := by rw [← hM4]; rfl
   have l4 := x4.lo
   have g7 : M4.get M3.n = some (.cs false 2 (setN (itc n) 0 (ofL [.i .i64 0, .i .i64 0] 0))) := by rw [← hM4, set_same]
   clear hM4
   have h4 := hC.grow x4
   have g2' := h4.gA
   refine bindP_call (behind_any (h.ext h4.ext) hnI (by omega) (by omega)) ?_
   rintro m M5 ⟨x5, rfl⟩
   have n5 := x5.n
   have l5 := x5.lo
   have h5 := h4.grow x5
   have htk : (ivs (t' ++ [n])).take t'.length = ivs t' := by
    unfold ivs
    rw [← List.map_take, List.take_left]
   have hr5 : OwnRow (M.n + 4) M5 2 (cutHi t'.length v) (ivs t') := by
    have := own_take h5.row (i := t'.length) (by rw [ivs_len, List.length_append]; omega)
    rwa [htk] at this
   have h6 : CSt M M5 (gcs g vr vf vc vk) W t' seen (cutHi t'.length v) := h5.app (Nat.le_refl _) rfl (fun _ _ _ => rfl) hr5
   have hms' : 61 * falses seen + t'.length < 61 * falses seen + (t' ++ [n]).length := by rw [List.length_append]; simp only [List.length_cons, List.length_nil]; omega
   cases hb : behN g n with
   | none =>
    simp (disch := try exact dz) only [↓bxD, bA, simprocAttr, get_set, k4, k2, k3, k5, Option.isSome_none, Option.getD_none]
    refine ⟨(W, t', seen), hms', hI.skip (fun s hs => ?_), hsl, by simp only; omega, ?_⟩
    ·rw [hb] at hs; cases hs
    ·exact ⟨_, rfl, h6⟩
   | some z =>
    by_cases hz0 : z < 0
    ·have d1 : decide (z < 0) = true := decide_eq_true hz0
     simp (disch := try exact dz) only [↓bxD, bA, simprocAttr, get_set, k4, k2, k3, k5, Option.isSome_some, Option.getD_some, d1]
     refine ⟨(W, t', seen), hms', hI.skip (fun s hs => ?_), hsl, by simp only; omega, ?_⟩
     ·rw [hb] at hs
      injection hs with hs
      subst hs
      exact .inl hz0
     ·exact ⟨_, rfl, h6⟩
    ·have d1 : decide (z < 0) = false := decide_eq_false hz0
     have hzn := beh_sym hok hb (by omega)
     have hn40 := hok.n2
     obtain ⟨k, rfl⟩ : ∃ k : Nat, z = k := ⟨z.toNat, by omega⟩
     rw [Int.toNat_natCast] at hzn
     have hk40 : k < 40 := by omega
     obtain ⟨cD, e1, e2⟩ := h6.gD
     obtain ⟨b, hsk⟩ : ∃ b, seen[k]? = some b := ⟨_, List.getElem?_eq_getElem (by omega)⟩
     have ha : ixAV 40 1 (.p (M.n + 1 + 1 + 1) 0) (.i .i64 (k : Int)) = some (.p (M.n + 1 + 1 + 1) (0 + k * 1)) := ixA_p hk40
     have hcD : cget cD (k * 1) = some (.b b) := by
      have := e2 k (.b b) (by rw [List.getElem?_map, hsk]; rfl)
      rwa [Nat.zero_add, ← Nat.mul_one k] at this
     cases b with
     | true =>
      simp (disch := try exact dz) only [↓bxD, bA, simprocAttr, get_set, k4, k2, k3, k5, Option.isSome_some, Option.getD_some, d1, ha, e1, hcD]
      refine ⟨(W, t', seen), hms', hI.skip (fun s hs => ?_), hsl, by simp only; omega, ?_⟩
      ·rw [hb] at hs
       injection hs with hs
       subst hs
       exact .inr (by rw [Int.toNat_natCast]; exact hsk)
      ·exact ⟨_, rfl, h6⟩
     | false =>
      simp (disch := try exact dz) only [↓bxD, bA, simprocAttr, k5, Option.isSome_some, Option.getD_some, d1, ha, e1, hcD]
      have hbD : hasB cD 1 (k * 1) = true := has_at e2 (by omega) (by rw [List.length_map, hsl]; omega)
      obtain ⟨hr1, hr2⟩ := h.rules.row.sl
      rw [h.rules.len] at hr2
      have h7 := h6.mark (k := k) e1 e2 (by omega)
      have hI2 := hI.name hri hb hsk
      have hfl := falses_set hsk
      have gA6 := h7.gA
      have hM6 : (M5.set (M.n + 1 + 1 + 1) (some (.cs false 40 (setN (MV.b true).cells (k * 1) cD)))).n = M5.n := rfl
      have hL6 : (M5.set (M.n + 1 + 1 + 1) (some (.cs false 40 (setN (MV.b true).cells (k * 1) cD)))).lo = M5.lo := rfl
      have gA5 := h6.gA
      show Wp fns K18_3 _ _ _
      unfold K18_3
      simp (disch := try exact dz) only [↓bxD, bA, simprocAttr, k2, k5, ha, e1, gA5, g_3', hr2]
      generalize M5.set (M.n + 1 + 1 + 1) (some (.cs false 40 (setN (MV.b true).cells (k * 1) cD))) = M6 at h7 gA6 hM6 hL6 ⊢
      refine Wp_inv (σ := Nat × Nat × List Nat) (fun s f M' => s.1 ≤ g.rules.length ∧ CInv g (fun n => N.testBit n = true) s.2.1 s.2.2 (seen.set k true) k s.1 ∧ s.2.2.length ≤ t'.length + s.1 ∧ X.ev f (.t q2) = .p M.n 0 ∧ X.ev f (.t q3) = .p (M.n + 1) 0 ∧ f.get q4 = some (.p (M.n + 1 + 1) 0) ∧ X.ev f (.t q5) = .p (M.n + 1 + 1 + 1) 0 ∧ X.ev f (.t q8) = .i .i64 (k : Int) ∧ X.ev f (.t q49) = vr ∧ X.ev f (.t q50) = .i .i64 (g.rules.length : Int) ∧ X.ev f (.t q51) = .i .i64 (s.1 : Int) ∧ ∃ v, X.ev f (.t q6) = v ∧ CSt M M' (gcs g vr vf vc vk) s.2.1 s.2.2 (seen.set k true) v) (fun s => g.rules.length - s.1) ?_ (0, W, t') ?_
      ·clear k2 k3 k4 k5 k6 gA5 gA6 hM6 hL6 h7 e1 e2 hbD hcD h6 h5 h4 hr5 g7
       rintro ⟨i, W2, td⟩ f M7 ⟨hi, hI3, htd, k2, k3, k4, k5, k8, k49, k50, k51, v, k6, hC⟩
       simp only at hi hI3 htd hC k51
       simp only [q2, q3, q4, q5, q6, q8, q49, q50, q51] at k2 k3 k4 k5 k6 k8 k49 k50 k51
       have hCn := hC.n
       have hCx := hC.ext
       have xl := hCx.lo
       unfold L18_2
       by_cases hi' : i < g.rules.length
       ·have d0 : decide ((i : Int) < (g.rules.length : Int)) = true := decide_eq_true (by omega)
        obtain ⟨r, hr⟩ : ∃ r, g.rules[i]? = some r := ⟨_, List.getElem?_eq_getElem hi'⟩
        obtain ⟨ua, hu, hur⟩ := h.rules.get hr
        obtain ⟨hsu1, hsu2⟩ := hur.sl
        obtain ⟨ro, sz, t, hg, hid, hC2⟩ := (h.ext hCx).rules.row.read hu
        have hN3 : Ev.getN t 3 (soff vr + i * 3) = some [.i .i64 r.1, ua, .i .i64 r.2.2] := hC2.getN
        have hst3 : stOk 3 (.ag [.i .i64 r.1, ua, .i .i64 r.2.2]) = true := by cases ua <;> first | rfl | cases hsu1
        have wi : wrapF .i64 ((i : Int) + 1) = ((i + 1 : Nat) : Int) := by rw [wrap_in (by omega) (by omega)]; omega
        have c30 : cget (setN [.i .i64 r.1, ua, .i .i64 r.2.2] 0 (ofL [.i .i64 0, .nils, .i .i64 0] 0)) 0 = some (.i .i64 r.1) := (at_setN _ _ _) 0 _ rfl
        simp (disch := try exact dz) only [↓bxD, bA, simprocAttr, k50, k51, d0]
        show Wp fns K18_1 _ _ _
        unfold K18_1
        simp (disch := try exact dz) only [↓bxD, bA, simprocAttr, k8, k49, k51, hg, hN3, c30]
        generalize hM8 : (M7.push _).set M7.n _ = M8
        have x8 : Ext M7 M8 := by rw [← hM8]; exact (Ext.push M7 _).set _ (Nat.le_refl _)
        have n8 : M8.n = M7.n + 1 := by rw [← hM8]; rfl
        have l8 := x8.lo
        clear hM8
        have h8 := hC.grow x8
        by_cases hrk : r.1 = (k : Int)
        ·have d1 : decide (r.1 = (k : Int)) = true := decide_eq_true hrk
         have hit : fillM [(0, 1, MV.i .i64 (i : Int))] [.i .i64 0, .i .i64 0] = some (itc ((i + 1) * 9)) := by
          unfold itc
          rw [show (i + 1) * 9 / 9 = i + 1 from by omega, show (i + 1) * 9 % 9 = 0 from by omega, show ((i + 1 : Nat) : Int) - 1 = (i : Int) from by omega]
          rfl
         have hst := @i_st ((i + 1) * 9)
         have c7 : Ev.getN (setN (itc ((i + 1) * 9)) 0 (ofL [.i .i64 0, .i .i64 0] 0)) 2 0 = some (itc ((i + 1) * 9)) := (at_setN _ _ _).getN
         simp (disch := try exact dz) only [↓bxD, bA, simprocAttr, k3, d1, hit, c7]
         generalize hM9 : (M8.push _).set M8.n _ = M9
         have x9 : Ext M8 M9 := by rw [← hM9]; exact (Ext.push M8 _).set _ (Nat.le_refl _)
         have n9 : M9.n = M8.n + 1 := by rw [← hM9]; rfl
         have g12 : M9.get M8.n = some (.cs false 2 (setN (itc ((i + 1) * 9)) 0 (ofL [.i .i64 0, .i .i64 0] 0))) := by rw [← hM9, set_same]
         have l9 := x9.lo
         clear hM9
         have h9 := h8.grow x9
         obtain ⟨cB, b1, b2⟩ := h9.gB
         refine bindP_call (add_any b1 b2 (by omega) (by omega) (by omega) (by omega)) ?_
         rintro m M10 ⟨⟨cB2, b3, b4, _⟩, x10⟩
         have n10 := x10.n
         have l10 := x10.lo
         have h10 := h9.put ⟨cB2, b3, b4⟩ x10
         have g12' := (x10.old M8.n (by omega) (by omega)).trans g12
         have hb2 : fillM [(0, 2, MV.ag (itc ((i + 1) * 9)))] [.i .i64 0, .i .i64 0] = some (itc ((i + 1) * 9)) := rfl
         simp (disch := try exact dz) only [↓bxD, bA, simprocAttr, k6, g12', c7, hb2]
         have tdl : td.length ≤ 5000 := by omega
         obtain ⟨v', M11, e1, e2, e3, e4, e5, e6⟩ := app_row (bytes := 16) (h10.row.ext (.push M10 (.cs false 2 (ofL (itc ((i + 1) * 9)) 0)))) (row_one (M := M10) (sz := 2) (e := itc ((i + 1) * 9)) rfl) (by rw [push_lo]; omega) (by rw [push_n]; omega) (fun e he => by rw [List.mem_singleton.1 he]; rfl) (by rw [List.length_singleton, ivs_len]; omega) (by rw [List.length_singleton, ivs_len]; omega)
         refine bindP_of e1 ?_
         have h11 : CSt M M11 (gcs g vr vf vc vk) (W2 ||| 2 ^ ((i + 1) * 9)) (td ++ [(i + 1) * 9]) (seen.set k true) v' := (h10.grow (.push M10 _)).app (t2 := td ++ [(i + 1) * 9]) e3 e4 e6 (by rw [ivs_app]; exact e2)
         simp (disch := try exact dz) only [↓bxD, bA, simprocAttr]
         show Wp fns K18_0 _ _ _
         unfold K18_0
         simp (disch := try exact dz) only [↓bxD, bA, simprocAttr, get_set, k4, k2, k3, k5, k8, k49, k50, k51, wi]
         refine ⟨(i + 1, W2 ||| 2 ^ ((i + 1) * 9), td ++ [(i + 1) * 9]), by simp only; omega, by simp only; omega, hI3.rule (hI.snd n hnW) hb hr hrk, by simp only [List.length_append, List.length_cons, List.length_nil]; omega, ?_⟩
         exact ⟨rfl, _, rfl, h11⟩
        ·have d1 : decide (r.1 = (k : Int)) = false := decide_eq_false hrk
         simp (disch := try exact dz) only [↓bxD, bA, simprocAttr, d1]
         show Wp fns K18_0 _ _ _
         unfold K18_0
         simp (disch := try exact dz) only [↓bxD, bA, simprocAttr, get_set, k4, k2, k3, k5, k6, k8, k49, k50, k51, wi]
         refine ⟨(i + 1, W2, td), by simp only; omega, by simp only; omega, hI3.other (fun r' hr' => by rw [hr] at hr'; injection hr' with hr'; rw [← hr']; exact hrk), by simp only; omega, ?_⟩
         exact ⟨rfl, _, rfl, h8⟩
       ·have hil : i = g.rules.length := by omega
        subst hil
        have d0 : decide ((g.rules.length : Int) < (g.rules.length : Int)) = false := decide_eq_false (by omega)
        simp (disch := try exact dz) only [↓bxD, bA, simprocAttr, get_set, k2, k3, k4, k5, k6, k50, k51, d0]
        have hfl' : falses (seen.set k true) < falses seen := hfl
        refine ⟨(W2, td, seen.set k true), by simp only [List.length_append, List.length_cons, List.length_nil]; omega, hI3.any hri 0 g.rules.length, by rw [List.length_set]; exact hsl, by simp only [List.length_append, List.length_cons, List.length_nil] at hms ⊢; omega, ?_⟩
        exact ⟨_, rfl, hC⟩
      ·refine ⟨Nat.zero_le _, hI2, Nat.le_add_right _ _, ?_⟩
       simp (disch := try exact dz) only [bA, reduceCtorEq, get_set, k2, k3, k4, k5]
       exact ⟨rfl, _, rfl, h7⟩
 ·have hbl : (bitsOf N 576).length ≤ 576 := bitsOf_len _ _
  have hf40 : falses (List.replicate 40 false) = 40 := rfl
  refine ⟨CInv.start (fun n => Iff.rfl) (fun n => by rw [mem_bits]; exact ⟨fun e => e.2, fun e => ⟨by have := (hN n e).lt hok h60; omega, e⟩⟩) 40 0 _, List.length_replicate, by simp only [hf40]; omega, ?_⟩
  simp (disch := try exact dz) only [bA, simprocAttr, get_set]
  exact ⟨_, rfl, h2⟩
theorem classes_any {M : MH} {v : MV} {l : List Int} (h : IntRow M v l) (hl : l.length ≤ 9223372036854775807) : Cp fns 46 [v] M fun m M' => m = .b (clsB l) ∧ M' = M := by
 obtain ⟨hs1, hs2⟩ := h.sl
 refine Cp_call (fn := F46) (by kernel_rfl) (Nat.le_of_ble_eq_true rfl) ?_
 show Wp fns B46 (T.set q0 (some v) T.lf) M _
 unfold B46
 simp (disch := try exact dz) only [↓bxD, bA, simprocAttr]
 refine Wp_inv (σ := Nat) (fun i f M' => M' = M ∧ i ≤ l.length ∧ X.ev f (.t q0) = v ∧ X.ev f (.t q3) = .i .i64 (i : Int) ∧ clsB (l.take i) = true) (fun i => l.length - i) ?_ 0 ?_
 ·rintro i f M' ⟨rfl, hi, h0, h3, hc⟩
  simp only [q0, q3] at h0 h3
  unfold L46_2
  simp (disch := try exact dz) only [↓bxD, bA, simprocAttr, hs2, h0, h3]
  refine condP_split (fun hlt => ?_) (fun hge => ?_)
  ·have hi' : i < l.length := by omega
   obtain ⟨z, hz⟩ : ∃ z, l[i]? = some z := ⟨_, List.getElem?_eq_getElem hi'⟩
   obtain ⟨ro, s, t, hg, hid, hC⟩ := h.read hz
   have hcl : clsB (l.take (i + 1)) = (decide (0 ≤ z) && decide (z ≤ 100)) := by
    unfold clsB at hc ⊢
    rw [List.take_add_one, hz, List.all_append, hc]
    simp
   have hf : (decide (0 ≤ z) && decide (z ≤ 100)) = false → clsB l = false := fun e => by
    have : clsB l = (clsB (l.take (i + 1)) && clsB (l.drop (i + 1))) := by
     unfold clsB
     rw [← List.all_append, List.take_append_drop]
    rw [this, hcl, e, Bool.false_and]
   by_cases hz0 : z < 0
   ·have hd : decide (z < 0) = true := decide_eq_true hz0
    simp (disch := try exact dz) only [↓bxD, bA, simprocAttr]
    show Wp fns K46_1 _ _ _
    unfold K46_1
    simp (disch := try exact dz) only [↓bxD, bA, simprocAttr, h0, h3, hg, hC, hd]
    rw [hf (by simp; omega)]
   ·have hd : decide (z < 0) = false := decide_eq_false hz0
    by_cases hz1 : 100 < z
    ·have hd1 : decide (100 < z) = true := decide_eq_true hz1
     simp (disch := try exact dz) only [↓bxD, bA, simprocAttr]
     show Wp fns K46_1 _ _ _
     unfold K46_1
     simp (disch := try exact dz) only [↓bxD, bA, simprocAttr, h0, h3, hg, hC, hd, hd1]
     rw [hf (by simp; omega)]
    ·have hd1 : decide (100 < z) = false := decide_eq_false hz1
     simp (disch := try exact dz) only [↓bxD, bA, simprocAttr]
     show Wp fns K46_1 _ _ _
     unfold K46_1
     simp (disch := try exact dz) only [↓bxD, bA, simprocAttr, h0, h3, hg, hC, hd, hd1]
     show Wp fns K46_0 _ _ _
     unfold K46_0
     simp (disch := try exact dz) only [↓bxD, bA, simprocAttr, h0, h3]
     exact ⟨i + 1, by omega, by omega, rfl, by rw [hcl]; simp; omega⟩
  ·have hi' : i = l.length := by omega
   subst hi'
   rw [List.take_length] at hc
   simp (disch := try exact dz) only [↓bxD, bA, simprocAttr]
   show Wp fns K46_3 _ _ _
   unfold K46_3
   simp (disch := try exact dz) only [↓bxD, bA, simprocAttr]
   rw [hc]
 ·exact ⟨rfl, Nat.zero_le _, by simp only [bA, reduceCtorEq], by simp only [bA, reduceCtorEq] <;> rfl, rfl⟩
theorem symbol_any {M : MH} {g : Gr} {vr vf vc vk : MV} {s : Int} (hlo : M.lo ≤ M.n) (hs : Wf64 s) : Cp fns 47 [.ag (gcs g vr vf vc vk), .i .i64 s] M fun m M' => m = .b (symB g s) ∧ Ext M M' := by
 obtain ⟨hb1, hb2⟩ := hs
 refine Cp_call (fn := F47) (by kernel_rfl) (Nat.le_of_ble_eq_true rfl) ?_
 show Wp fns B47 (T.set q1 (some (.i .i64 s)) (T.set q0 (some (.ag (gcs g vr vf vc vk))) T.lf)) M _
 unfold B47 gcs
 have hx : ∀ l, Ext M (M.push (.cs false 7 (ofL l 0))) := fun l => .push M _
 by_cases h0 : s < 0
 ·have hd : decide (s < 0) = true := decide_eq_true h0
  simp (disch := try exact dz) only [↓bxD, bA, reduceCtorEq, hd]
  exact ⟨by unfold symB; rw [if_pos h0]; rfl, hx _⟩
 ·have hd : decide (s < 0) = false := decide_eq_false h0
  simp (disch := try exact dz) only [↓bxD, bA, simprocAttr, hd]
  show Wp fns K47_0 _ _ _
  unfold K47_0
  simp (disch := try exact dz) only [↓bxD, bA, simprocAttr]
  exact ⟨by unfold symB; rw [if_neg h0], hx _⟩
theorem ixA_0 {n s id off : Nat} {k : IntKind} (h : 0 < n) : ixAV n s (.p id off) (.i k 0) = some (.p id (off + 0 * s)) := ixA_p (i := 0) h
theorem ixA_1 {n s id off : Nat} {k : IntKind} (h : 1 < n) : ixAV n s (.p id off) (.i k 1) = some (.p id (off + 1 * s)) := ixA_p (i := 1) h
theorem ixA_2 {n s id off : Nat} {k : IntKind} (h : 2 < n) : ixAV n s (.p id off) (.i k 2) = some (.p id (off + 2 * s)) := ixA_p (i := 2) h
structure Rdy (M0 M : MH) (g : Gr) (vr vf vc vk : MV) (es : List (List MV)) (f : Fr) : Prop where
 gr : GrAt M vr vf vc vk es g
 ext : Ext M0 M
 lo0 : M0.lo ≤ M0.n
 lt : M0.n < M.n
 box : M.get M0.n = some (.cs false 7 (ofL (gcs g vr vf vc vk) 0))
 fr : X.ev f (.t q1) = .p M0.n 0
def FormPost (g : Gr) (M0 : MH) : MV → MH → Prop := fun m M' => m = .tp [.i .i64 (formP g).1, .i .i64 (formP g).2] ∧ Ext M0 M'
theorem form_forb {M0 M : MH} {g : Gr} {vr vf vc vk : MV} {es : List (List MV)} {f : Fr} (h : Rdy M0 M g vr vf vc vk es f) (hh : headE g = none) (hr : findE (ruleE g) g.rules 0 = none) : Wp fns K34_12 f M (retQ F34 (FormPost g M0)) := by
 have hq := h.fr
 simp only [q1] at hq
 unfold K34_12
 simp (disch := try exact dz) only [↓bxD, bA, simprocAttr]
 refine Wp_inv (σ := Nat) (fun i f M' => Rdy M0 M' g vr vf vc vk es f ∧ i ≤ g.forbid.length ∧ X.ev f (.t q8) = .i .i64 (i : Int) ∧ (g.forbid.take i).any (badF g) = false) (fun i => g.forbid.length - i) ?_ 0 ?_
 ·rintro i f M' ⟨h, hi, h8, hp⟩
  have hq := h.fr
  obtain ⟨hr1, hr2⟩ := h.gr.rules.row.sl
  rw [h.gr.rules.len] at hr2
  obtain ⟨hf1, hf2⟩ := h.gr.forbid.sl
  rw [List.length_map] at hf2
  have hlo := h.lo0
  have hn := h.ext.n
  have hl := h.ext.lo
  have hlt := h.lt
  have hbox := h.box
  have hwl := h.gr.wf.lens
  obtain ⟨hw1, hw2, _, _⟩ := hwl
  simp only [q1, q8] at hq h8
  unfold gcs at hbox
  unfold L34_10
  simp (disch := try exact dz) only [↓bxD, bA, simprocAttr, hq, h8, hf2, hbox]
  refine condP_split (fun hlt2 => ?_) (fun hge => ?_)
  ·have hi' : i < g.forbid.length := by omega
   obtain ⟨x, hz⟩ : ∃ x, g.forbid[i]? = some x := ⟨_, List.getElem?_eq_getElem hi'⟩
   obtain ⟨x0, x1, x2⟩ := x
   obtain ⟨ro, s, t, hg, hid, hat⟩ := h.gr.forbid.read (i := i) (e := trip (x0, x1, x2)) (by rw [List.getElem?_map, hz]; rfl)
   have hN : Ev.getN t 3 (soff vf + i * 3) = some (trip (x0, x1, x2)) := hat.getN
   unfold trip at hN
   have hany : g.forbid.any (badF g) = ((g.forbid.take (i + 1)).any (badF g) || (g.forbid.drop (i + 1)).any (badF g)) := by rw [← List.any_append, List.take_append_drop]
   have htk : (g.forbid.take (i + 1)).any (badF g) = badF g (x0, x1, x2) := by rw [List.take_add_one, hz, List.any_append, hp]; simp
   have hbad : badF g (x0, x1, x2) = true → formP g = (-1, 6) := fun e => by unfold formP; rw [hh, hr]; simp only; rw [if_pos (by rw [hany, htk, e]; rfl)]
   simp (disch := try exact dz) only [↓bxD, bA, simprocAttr]
   show Wp fns K34_9 _ _ _
   unfold K34_9
   simp (disch := try exact dz) only [↓bxD, bA, simprocAttr, hq, h8, hbox, hg, hN]
   generalize hM2 : (M'.push _).set M'.n _ = M2
   have hx2 : Ext M' M2 := by rw [← hM2]; exact (Ext.push M' _).set _ (Nat.le_refl _)
   have hn2 := hx2.n
   have hl2 := hx2.lo
   have h9 : M2.get M'.n = some (.cs false 3 (setN [.i .i64 x0, .i .i64 x1, .i .i64 x2] 0 (ofL [.i .i64 0, .i .i64 0, .i .i64 0] 0))) := by rw [← hM2, set_same]
   have hbox2 := (hx2.old _ hlt).trans hbox
   have hgr := h.gr.ext hx2
   clear hM2
   have hxx := h.ext.trans hx2
   refine Wp_dreg_of (by omega) ?_
   by_cases c0 : x0 < 0
   ·have d0 : decide (x0 < 0) = true := decide_eq_true c0
    simp (disch := try exact dz) only [↓bxD, bA, simprocAttr, ixA_0, h9, d0]
    have e : formP g = (-1, 6) := hbad (by unfold badF; rw [if_pos (by simp only; omega)])
    show Wp fns K34_7 _ _ _
    unfold K34_7
    simp (disch := try exact dz) only [↓bxD, bA, simprocAttr]
    unfold FormPost
    rw [e]
    exact ⟨rfl, hxx⟩
   have d0 : decide (x0 < 0) = false := decide_eq_false c0
   by_cases c1 : (g.rules.length : Int) ≤ x0
   ·have d1 : decide ((g.rules.length : Int) ≤ x0) = true := decide_eq_true c1
    simp (disch := try exact dz) only [↓bxD, bA, simprocAttr, hq, hr2, hbox2, ixA_0, h9, d0, d1]
    have e : formP g = (-1, 6) := hbad (by unfold badF; rw [if_pos (by simp only; omega)])
    show Wp fns K34_7 _ _ _
    unfold K34_7
    simp (disch := try exact dz) only [↓bxD, bA, simprocAttr]
    unfold FormPost
    rw [e]
    exact ⟨rfl, hxx⟩
   have d1 : decide ((g.rules.length : Int) ≤ x0) = false := decide_eq_false c1
   by_cases c2 : x2 < 0
   ·have d2 : decide (x2 < 0) = true := decide_eq_true c2
    simp (disch := try exact dz) only [↓bxD, bA, simprocAttr, hq, hr2, hbox2, ixA_0, ixA_2, h9, d0, d1, d2]
    have e : formP g = (-1, 6) := hbad (by unfold badF; rw [if_pos (by simp only; omega)])
    show Wp fns K34_7 _ _ _
    unfold K34_7
    simp (disch := try exact dz) only [↓bxD, bA, simprocAttr]
    unfold FormPost
    rw [e]
    exact ⟨rfl, hxx⟩
   have d2 : decide (x2 < 0) = false := decide_eq_false c2
   by_cases c3 : (g.rules.length : Int) ≤ x2
   ·have d3 : decide ((g.rules.length : Int) ≤ x2) = true := decide_eq_true c3
    simp (disch := try exact dz) only [↓bxD, bA, simprocAttr, hq, hr2, hbox2, ixA_0, ixA_2, h9, d0, d1, d2, d3]
    have e : formP g = (-1, 6) := hbad (by unfold badF; rw [if_pos (by simp only; omega)])
    show Wp fns K34_7 _ _ _
    unfold K34_7
    simp (disch := try exact dz) only [↓bxD, bA, simprocAttr]
    unfold FormPost
    rw [e]
    exact ⟨rfl, hxx⟩
   have d3 : decide ((g.rules.length : Int) ≤ x2) = false := decide_eq_false c3
   obtain ⟨n0, rfl⟩ : ∃ n : Nat, x0 = n := ⟨x0.toNat, by omega⟩
   obtain ⟨n2, rfl⟩ : ∃ n : Nat, x2 = n := ⟨x2.toNat, by omega⟩
   have hi0 : n0 < g.rules.length := by omega
   have hi2 : n2 < g.rules.length := by omega
   obtain ⟨a, ha⟩ : ∃ a, g.rules[n0]? = some a := ⟨_, List.getElem?_eq_getElem hi0⟩
   obtain ⟨b, hb⟩ : ∃ b, g.rules[n2]? = some b := ⟨_, List.getElem?_eq_getElem hi2⟩
   obtain ⟨a0, ar, a2⟩ := a
   obtain ⟨b0, br, b2⟩ := b
   obtain ⟨uu, hu1, hu2⟩ := hgr.rules.get ha
   obtain ⟨v, hv1, hv2⟩ := hgr.rules.get hb
   obtain ⟨ro3, s3, t3, hg3, hid3, hat3⟩ := hgr.rules.row.read hu1
   obtain ⟨ro4, s4, t4, hg4, hid4, hat4⟩ := hgr.rules.row.read hv1
   rw [hg3] at hg4
   injection hg4 with hg4
   injection hg4 with e1 e2 e3
   subst e1 e2 e3
   have hC3 : cget t3 (soff vr + n0 * 3 + 1) = some uu := hat3 1 _ rfl
   have hC4 : cget t3 (soff vr + n2 * 3) = some (.i .i64 b0) := hat4 0 _ rfl
   obtain ⟨hu3, hu4⟩ := hu2.sl
   simp only at hu3 hu4
   have hbf : badF g ((n0 : Int), x1, (n2 : Int)) = if x1 < 0 ∨ (ar.length : Int) ≤ x1 then true else match ar[x1.toNat]? with
     | some s => decide (s ≠ b0)
     | none => true := by
    unfold badF
    rw [if_neg (by simp only; omega)]
    simp only [Int.toNat_natCast, ha, hb]
    try rfl
   by_cases c4 : x1 < 0
   ·have d4 : decide (x1 < 0) = true := decide_eq_true c4
    simp (disch := try exact dz) only [↓bxD, bA, simprocAttr, hq, hr2, hbox2, ixA_0, ixA_1, ixA_2, h9, d0, d1, d2, d3, d4]
    have e : formP g = (-1, 6) := hbad (by rw [hbf, if_pos (by omega)])
    show Wp fns K34_7 _ _ _
    unfold K34_7
    simp (disch := try exact dz) only [↓bxD, bA, simprocAttr]
    unfold FormPost
    rw [e]
    exact ⟨rfl, hxx⟩
   have d4 : decide (x1 < 0) = false := decide_eq_false c4
   by_cases c5 : (ar.length : Int) ≤ x1
   ·have d5 : decide ((ar.length : Int) ≤ x1) = true := decide_eq_true c5
    simp (disch := try exact dz) only [↓bxD, bA, simprocAttr, hq, hr2, hbox2, ixA_0, ixA_1, ixA_2, h9, d0, d1, d2, d3, hg3, hC3, hu4, d4, d5]
    have e : formP g = (-1, 6) := hbad (by rw [hbf, if_pos (by omega)])
    show Wp fns K34_7 _ _ _
    unfold K34_7
    simp (disch := try exact dz) only [↓bxD, bA, simprocAttr]
    unfold FormPost
    rw [e]
    exact ⟨rfl, hxx⟩
   have d5 : decide ((ar.length : Int) ≤ x1) = false := decide_eq_false c5
   obtain ⟨n1, rfl⟩ : ∃ n : Nat, x1 = n := ⟨x1.toNat, by omega⟩
   have hi1 : n1 < ar.length := by omega
   obtain ⟨z, hz1⟩ : ∃ z, ar[n1]? = some z := ⟨_, List.getElem?_eq_getElem hi1⟩
   obtain ⟨ro5, s5, t5, hg5, hid5, hC5⟩ := hu2.read hz1
   by_cases c6 : z ≠ b0
   ·have d6 : decide (z ≠ b0) = true := decide_eq_true c6
    simp (disch := try exact dz) only [↓bxD, bA, simprocAttr, hq, hr2, hbox2, ixA_0, ixA_1, ixA_2, h9, d0, d1, d2, d3, hg3, hC3, hC4, hu4, d4, d5, hg5, hC5, d6]
    have e : formP g = (-1, 6) := hbad (by rw [hbf, if_neg (by omega)]; simp only [Int.toNat_natCast, hz1]; exact d6)
    show Wp fns K34_7 _ _ _
    unfold K34_7
    simp (disch := try exact dz) only [↓bxD, bA, simprocAttr]
    unfold FormPost
    rw [e]
    exact ⟨rfl, hxx⟩
   have d6 : decide (z ≠ b0) = false := decide_eq_false c6
   simp (disch := try exact dz) only [↓bxD, bA, simprocAttr, hq, hr2, hbox2, ixA_0, ixA_1, ixA_2, h9, d0, d1, d2, d3, hg3, hC3, hC4, hu4, d4, d5, hg5, hC5, d6]
   show Wp fns K34_7 _ _ _
   unfold K34_7
   simp (disch := try exact dz) only [↓bxD, bA, simprocAttr]
   show Wp fns K34_8 _ _ _
   unfold K34_8
   simp (disch := try exact dz) only [↓bxD, bA, simprocAttr, h8]
   have hnb : badF g ((n0 : Int), (n1 : Int), (n2 : Int)) = false := by rw [hbf, if_neg (by omega)]; simp only [Int.toNat_natCast, hz1]; exact d6
   refine ⟨i + 1, by omega, ⟨hgr, hxx, h.lo0, by omega, hbox2, ?_⟩, by omega, rfl, by rw [htk, hnb]⟩
   simp (disch := try exact dz) only [bA, simprocAttr, hq]
  ·have hi' : i = g.forbid.length := by omega
   subst hi'
   rw [List.take_length] at hp
   simp (disch := try exact dz) only [↓bxD, bA, simprocAttr]
   show Wp fns K34_11 _ _ _
   unfold K34_11
   simp (disch := try exact dz) only [↓bxD, bA, simprocAttr]
   have e : formP g = (-1, 0) := by unfold formP; rw [hh, hr]; simp only; rw [hp]; rfl
   unfold FormPost
   rw [e]
   exact ⟨rfl, h.ext⟩
 ·refine ⟨⟨h.gr, h.ext, h.lo0, h.lt, h.box, ?_⟩, Nat.zero_le _, rfl, rfl⟩
  simp (disch := try exact dz) only [bA, simprocAttr, hq]
theorem okR_eq {g : Gr} {a0 a2 : Int} {ar : List Int} : okR g (a0, ar, a2) = ((decide (0 ≤ a0) && decide (a0 < g.names)) && ar.all (symB g)) := rfl
theorem rule_loop {M0 M : MH} {g : Gr} {vr vf vc vk : MV} {es : List (List MV)} {f : Fr} (h : Rdy M0 M g vr vf vc vk es f) {a0 a2 : Int} {ar : List Int} {ur : MV} {i n5 : Nat} {c : T MV} {b : Bool} (hn5 : n5 < M.n) (hb5 : M.get n5 = some (.cs false 3 c)) (hC : At c 0 [.i .i64 a0, ur, .i .i64 a2]) (hu : IntRow M ur ar) (hw : ∀ z ∈ ar, Wf64 z) (hwl : ar.length ≤ 9223372036854775807)
  (h5 : X.ev f (.t q5) = .p n5 0) (h4 : X.ev f (.t q4) = .i .i64 (i : Int)) (h7 : X.ev f (.t q7) = .i .i64 0) (h6 : X.ev f (.t q6) = .b b) (hb : b = (decide (0 ≤ a0) && decide (a0 < g.names))) (Q : Post)
  (hnorm : ∀ f' M', Rdy M0 M' g vr vf vc vk es f' → X.ev f' (.t q4) = .i .i64 (i : Int) → ruleE g (a0, ar, a2) = none → Q .norm f' M')
  (hret : ∀ e f' M', ruleE g (a0, ar, a2) = some e → IRes.ev f' M' (.tmp q2) = some (.i .i64 (i : Int)) → IRes.ev f' M' (.tmp q3) = some (.i .i64 e) → Ext M0 M' → Q .ret f' M') :
  Wp fns (.loop L34_2) f M (blockQ 2 (thenQ fns K34_3 Q)) := by
 refine Wp_inv (σ := Nat) (fun k f1 M1 => Rdy M0 M1 g vr vf vc vk es f1 ∧ Ext M M1 ∧ k ≤ ar.length ∧ X.ev f1 (.t q5) = .p n5 0 ∧ X.ev f1 (.t q4) = .i .i64 (i : Int) ∧ X.ev f1 (.t q7) = .i .i64 (k : Int) ∧ X.ev f1 (.t q6) = .b (b && (ar.take k).all (symB g))) (fun k => ar.length - k) ?_ 0 ?_
 ·rintro k f1 M1 ⟨h, hx, hk, h5, h4, h7, h6⟩
  have hq := h.fr
  have hlo := h.lo0
  have hn := h.ext.n
  have hl := h.ext.lo
  have hlt := h.lt
  have hbox := h.box
  have hg5 := (hx.old _ hn5).trans hb5
  have hu1 := hu.ext hx
  obtain ⟨hu3, hu4⟩ := hu1.sl
  have c0 : cget c 0 = some (.i .i64 a0) := hC 0 _ rfl
  have c1 : cget c 1 = some ur := hC 1 _ rfl
  have c2 : cget c 2 = some (.i .i64 a2) := hC 2 _ rfl
  have hall : ar.all (symB g) = ((ar.take k).all (symB g) && (ar.drop k).all (symB g)) := by rw [← List.all_append, List.take_append_drop]
  simp only [q1, q4, q5, q6, q7] at hq h4 h5 h6 h7
  unfold gcs at hbox
  unfold L34_2
  by_cases hk1 : k < ar.length
  ·have d1 : decide ((k : Int) < (ar.length : Int)) = true := decide_eq_true (by omega)
   cases hv : (b && (ar.take k).all (symB g)) with
   | true =>
    rw [hv] at h6
    obtain ⟨z, hz⟩ : ∃ z, ar[k]? = some z := ⟨_, List.getElem?_eq_getElem hk1⟩
    obtain ⟨ro, s, t, hg, hid, hZ⟩ := hu1.read hz
    have hG : Ev.getN (ofL [MV.i IntKind.i64 g.names, MV.i IntKind.i64 g.kinds, MV.i IntKind.i64 g.start, vr, vf, vc, vk] 0) 7 0 = some (gcs g vr vf vc vk) := (at_ofL (gcs g vr vf vc vk)).getN
    simp (disch := try exact dz) only [↓bxD, bA, simprocAttr, h5, h6, h7, hg5, hu4, c1, d1]
    show Wp fns K34_1 _ _ _
    unfold K34_1
    simp (disch := try exact dz) only [↓bxD, bA, simprocAttr]
    refine Wp_dreg_of (by omega) ?_
    simp (disch := try exact dz) only [↓bxD, bA, simprocAttr, hq, h5, h7, hbox, hg5, c1, hg, hZ, hG]
    refine bindP_call (symbol_any (by omega) (hw z (List.mem_of_getElem? hz))) ?_
    rintro m M2 ⟨rfl, hx2⟩
    have hn2 := hx2.n
    simp (disch := try exact dz) only [↓bxD, bA, simprocAttr]
    show Wp fns K34_0 _ _ _
    unfold K34_0
    simp (disch := try exact dz) only [↓bxD, bA, simprocAttr, h4, h5, h7]
    refine ⟨k + 1, by omega, ⟨h.gr.ext hx2, h.ext.trans hx2, h.lo0, by omega, (hx2.old _ hlt).trans h.box, ?_⟩, hx.trans hx2, by omega, ?_⟩
    ·simp only [bA, reduceCtorEq, hq]
    ·exact ⟨rfl, by rw [List.take_add_one, hz, List.all_append, ← Bool.and_assoc, hv]; simp⟩
   | false =>
    rw [hv] at h6
    simp (disch := try exact dz) only [↓bxD, bA, simprocAttr, h5, h6, h7, hg5, hu4, c1, d1]
    show Wp fns K34_3 _ _ _
    unfold K34_3
    simp (disch := try exact dz) only [↓bxD, bA, simprocAttr, h4, h6]
    have hok : okR g (a0, ar, a2) = false := by rw [okR_eq, ← hb, hall, ← Bool.and_assoc, hv, Bool.false_and]
    exact hret 6 _ _ (by unfold ruleE; rw [if_pos hok]) (by simp only [bA, reduceCtorEq]) (by simp only [bA, reduceCtorEq]) h.ext
  ·have d1 : decide ((k : Int) < (ar.length : Int)) = false := decide_eq_false (by omega)
   have hkl : k = ar.length := by omega
   subst hkl
   rw [List.take_length] at h6
   have hok : okR g (a0, ar, a2) = (b && ar.all (symB g)) := by rw [okR_eq, ← hb]
   cases hv : (b && ar.all (symB g)) with
   | false =>
    rw [hv] at h6 hok
    simp (disch := try exact dz) only [↓bxD, bA, simprocAttr, h5, h7, hg5, hu4, c1, d1]
    show Wp fns K34_3 _ _ _
    unfold K34_3
    simp (disch := try exact dz) only [↓bxD, bA, simprocAttr, h4, h6]
    exact hret 6 _ _ (by unfold ruleE; rw [if_pos hok]) (by simp only [bA, reduceCtorEq]) (by simp only [bA, reduceCtorEq]) h.ext
   | true =>
    rw [hv] at h6 hok
    have hne : ¬ okR g (a0, ar, a2) = false := by rw [hok]; simp
    by_cases e8 : (8 : Int) < (ar.length : Int)
    ·have d8 : decide ((8 : Int) < (ar.length : Int)) = true := decide_eq_true e8
     simp (disch := try exact dz) only [↓bxD, bA, simprocAttr, h5, h7, hg5, hu4, c1, d1]
     show Wp fns K34_3 _ _ _
     unfold K34_3
     simp (disch := try exact dz) only [↓bxD, bA, simprocAttr, h4, h5, h6, hg5, hu4, c1, d8]
     exact hret 3 _ _ (by unfold ruleE; rw [if_neg hne, if_pos e8]) (by simp only [bA, reduceCtorEq]) (by simp only [bxP, bxQ, reduceCtorEq]) h.ext
    ·have d8 : decide ((8 : Int) < (ar.length : Int)) = false := decide_eq_false e8
     by_cases e9 : a2 < Int.negSucc 999
     ·have d9 : decide (a2 < Int.negSucc 999) = true := decide_eq_true e9
      simp (disch := try exact dz) only [↓bxD, bA, reduceCtorEq, h5, h7, hg5, hu4, c1, d1]
      show Wp fns K34_3 _ _ _
      unfold K34_3
      simp (disch := try exact dz) only [↓bxD, bA, reduceCtorEq, h4, h5, h6, hg5, hu4, c1, c2, d8, d9]
      exact hret 1 _ _ (by unfold ruleE; rw [if_neg hne, if_neg e8, if_pos (by simp only; omega)]) (by simp only [bxP, bxQ, reduceCtorEq]) (by simp only [bxP, bxQ, reduceCtorEq]) h.ext
     ·have d9 : decide (a2 < Int.negSucc 999) = false := decide_eq_false e9
      by_cases e10 : 1000 < a2
      ·have d10 : decide (1000 < a2) = true := decide_eq_true e10
       simp (disch := try exact dz) only [↓bxD, bA, reduceCtorEq, h5, h7, hg5, hu4, c1, d1]
       show Wp fns K34_3 _ _ _
       unfold K34_3
       simp (disch := try exact dz) only [↓bxD, bA, reduceCtorEq, h4, h5, h6, hg5, hu4, c1, c2, d8, d9, d10]
       exact hret 1 _ _ (by unfold ruleE; rw [if_neg hne, if_neg e8, if_pos (by simp only; omega)]) (by simp only [bxP, bxQ, reduceCtorEq]) (by simp only [bxP, bxQ, reduceCtorEq]) h.ext
      ·have d10 : decide (1000 < a2) = false := decide_eq_false e10
       simp (disch := try exact dz) only [↓bxD, bA, simprocAttr, h5, h7, hg5, hu4, c1, d1]
       show Wp fns K34_3 _ _ _
       unfold K34_3
       simp (disch := try exact dz) only [↓bxD, bA, reduceCtorEq, h5, h6, hg5, hu4, c1, c2, d8, d9, d10]
       refine hnorm _ _ ⟨h.gr, h.ext, h.lo0, h.lt, h.box, ?_⟩ ?_ (by unfold ruleE; rw [if_neg hne, if_neg e8, if_neg (by simp only; omega)])
       ·simp only [bA, reduceCtorEq, hq]
       ·simp only [bA, reduceCtorEq, h4]
 ·exact ⟨h, Ext.refl M, Nat.zero_le _, h5, h4, h7, by rw [h6]; simp⟩
theorem form_rules {M0 M : MH} {g : Gr} {vr vf vc vk : MV} {es : List (List MV)} {f : Fr} (h : Rdy M0 M g vr vf vc vk es f) (hh : headE g = none) : Wp fns K34_13 f M (retQ F34 (FormPost g M0)) := by
 have hq := h.fr
 simp only [q1] at hq
 unfold K34_13
 simp (disch := try exact dz) only [↓bxD, bA, simprocAttr]
 refine Wp_inv (σ := Nat) (fun i f M' => Rdy M0 M' g vr vf vc vk es f ∧ i ≤ g.rules.length ∧ X.ev f (.t q4) = .i .i64 (i : Int) ∧ findE (ruleE g) g.rules 0 = findE (ruleE g) (g.rules.drop i) i) (fun i => g.rules.length - i) ?_ 0 ?_
 ·rintro i f M' ⟨h, hi, h4, hp⟩
  have hq := h.fr
  obtain ⟨hr1, hr2⟩ := h.gr.rules.row.sl
  rw [h.gr.rules.len] at hr2
  have hlo := h.lo0
  have hn := h.ext.n
  have hl := h.ext.lo
  have hlt := h.lt
  have hbox := h.box
  obtain ⟨hw1, hw2, _, _⟩ := h.gr.wf.lens
  simp only [q1, q4] at hq h4
  unfold gcs at hbox
  unfold L34_6
  simp (disch := try exact dz) only [↓bxD, bA, simprocAttr, hq, h4, hr2, hbox]
  refine condP_split (fun hlt2 => ?_) (fun hge => ?_)
  ·have hi' : i < g.rules.length := by omega
   obtain ⟨r, hr⟩ : ∃ r, g.rules[i]? = some r := ⟨_, List.getElem?_eq_getElem hi'⟩
   obtain ⟨a0, ar, a2⟩ := r
   obtain ⟨ur, hu1, hu2⟩ := h.gr.rules.get hr
   obtain ⟨ro3, s3, t3, hg3, hid3, hat3⟩ := h.gr.rules.row.read hu1
   have hN : Ev.getN t3 3 (soff vr + i * 3) = some [.i .i64 a0, ur, .i .i64 a2] := hat3.getN
   obtain ⟨hu3, hu4⟩ := hu2.sl
   have hu5 := isSl_cells hu3
   have hu6 := isSl_one hu3
   have hu7 := isSl_isU hu3
   simp only at hu3 hu4
   have hst : stOk 3 (.ag [.i .i64 a0, ur, .i .i64 a2]) = true := by simp only [stOk, cells_ag, isU_ag, all_cons, all_nil, one_i, hu6]; rfl
   rw [findE_drop hr] at hp
   by_cases c0 : 0 ≤ a0
   ·have d0 : decide (0 ≤ a0) = true := decide_eq_true c0
    simp (disch := try exact dz) only [↓bxD, bA, simprocAttr]
    show Wp fns K34_5 _ _ _
    unfold K34_5
    simp (disch := try exact dz) only [↓bxD, bA, simprocAttr, hq, h4, hbox, hg3, hN, d0]
    generalize hM2 : (M'.push _).set M'.n _ = M2
    have hx2 : Ext M' M2 := by rw [← hM2]; exact (Ext.push M' _).set _ (Nat.le_refl _)
    have hn2 := hx2.n
    have hl2 := hx2.lo
    have h9 : M2.get M'.n = some (.cs false 3 (setN [.i .i64 a0, ur, .i .i64 a2] 0 (ofL [.i .i64 0, .nils, .i .i64 0] 0))) := by rw [← hM2, set_same]
    have hn3 : M2.n = M'.n + 1 := by rw [← hM2]; rfl
    clear hM2
    have hwr := h.gr.wf.rules _ (List.mem_of_getElem? hr)
    refine rule_loop (i := i) (b := decide (a0 < g.names)) ⟨h.gr.ext hx2, h.ext.trans hx2, hlo, by omega, (hx2.old _ hlt).trans h.box, ?_⟩ (by omega) h9 (at_setN _ _ _) (hu2.ext hx2) hwr.2.1 hwr.2.2.2 (by simp only [bA, reduceCtorEq]) (by simp only [bA, reduceCtorEq, h4]) (by simp only [bA, reduceCtorEq]) (by simp only [bA, reduceCtorEq]) (by rw [d0]; rfl) _ ?_ ?_
    ·simp only [bA, reduceCtorEq, hq]
    ·intro f' M3 h' h4' hnone
     have h4q := h4'
     simp only [q4] at h4q
     simp (disch := try exact dz) only [bA, simprocAttr]
     show Wp fns K34_4 _ _ _
     unfold K34_4
     simp (disch := try exact dz) only [↓bxD, bA, simprocAttr, h4q]
     rw [hnone] at hp
     refine ⟨i + 1, by omega, ⟨h'.gr, h'.ext, h'.lo0, h'.lt, h'.box, ?_⟩, by omega, rfl, hp⟩
     have hq' := h'.fr
     simp only [q1] at hq'
     simp (disch := try exact dz) only [bA, simprocAttr, hq']
    ·intro e f' M3 he h2' h3' hx3
     rw [he] at hp
     have e1 : formP g = ((i : Int), e) := by unfold formP; rw [hh, hp]
     simp only [q2, q3] at h2' h3'
     simp (disch := try exact dz) only [bA, simprocAttr, h2', h3']
     unfold FormPost
     rw [e1]
     exact ⟨rfl, hx3⟩
   ·have d0 : decide (0 ≤ a0) = false := decide_eq_false c0
    simp (disch := try exact dz) only [↓bxD, bA, simprocAttr]
    show Wp fns K34_5 _ _ _
    unfold K34_5
    simp (disch := try exact dz) only [↓bxD, bA, simprocAttr, hq, h4, hbox, hg3, hN, d0]
    generalize hM2 : (M'.push _).set M'.n _ = M2
    have hx2 : Ext M' M2 := by rw [← hM2]; exact (Ext.push M' _).set _ (Nat.le_refl _)
    have hn2 := hx2.n
    have hl2 := hx2.lo
    have h9 : M2.get M'.n = some (.cs false 3 (setN [.i .i64 a0, ur, .i .i64 a2] 0 (ofL [.i .i64 0, .nils, .i .i64 0] 0))) := by rw [← hM2, set_same]
    have hn3 : M2.n = M'.n + 1 := by rw [← hM2]; rfl
    clear hM2
    have hwr := h.gr.wf.rules _ (List.mem_of_getElem? hr)
    refine rule_loop (i := i) (b := false) ⟨h.gr.ext hx2, h.ext.trans hx2, hlo, by omega, (hx2.old _ hlt).trans h.box, ?_⟩ (by omega) h9 (at_setN _ _ _) (hu2.ext hx2) hwr.2.1 hwr.2.2.2 (by simp only [bA, reduceCtorEq]) (by simp only [bA, reduceCtorEq, h4]) (by simp only [bA, reduceCtorEq]) (by simp only [bA, reduceCtorEq]) (by rw [d0]; rfl) _ ?_ ?_
    ·simp only [bA, reduceCtorEq, hq]
    ·intro f' M3 h' h4' hnone
     have h4q := h4'
     simp only [q4] at h4q
     simp (disch := try exact dz) only [bA, simprocAttr]
     show Wp fns K34_4 _ _ _
     unfold K34_4
     simp (disch := try exact dz) only [↓bxD, bA, simprocAttr, h4q]
     rw [hnone] at hp
     refine ⟨i + 1, by omega, ⟨h'.gr, h'.ext, h'.lo0, h'.lt, h'.box, ?_⟩, by omega, rfl, hp⟩
     have hq' := h'.fr
     simp only [q1] at hq'
     simp (disch := try exact dz) only [bA, simprocAttr, hq']
    ·intro e f' M3 he h2' h3' hx3
     rw [he] at hp
     have e1 : formP g = ((i : Int), e) := by unfold formP; rw [hh, hp]
     simp only [q2, q3] at h2' h3'
     simp (disch := try exact dz) only [bA, simprocAttr, h2', h3']
     unfold FormPost
     rw [e1]
     exact ⟨rfl, hx3⟩
  ·have hi' : i = g.rules.length := by omega
   subst hi'
   rw [List.drop_length] at hp
   simp (disch := try exact dz) only [↓bxD, bA, simprocAttr]
   refine form_forb ⟨h.gr, h.ext, h.lo0, h.lt, h.box, ?_⟩ hh hp
   simp (disch := try exact dz) only [bA, simprocAttr, hq]
 ·refine ⟨⟨h.gr, h.ext, h.lo0, h.lt, h.box, ?_⟩, Nat.zero_le _, rfl, rfl⟩
  simp (disch := try exact dz) only [bA, simprocAttr, hq]
theorem form_head2 {M0 M : MH} {g : Gr} {vr vf vc vk : MV} {es : List (List MV)} {f : Fr} (h : Rdy M0 M g vr vf vc vk es f) (hh1 : ¬ (g.names < 1 ∨ 40 < g.names ∨ g.kinds < 0 ∨ 40 < g.kinds ∨ (60 : Int) < (g.rules.length : Int) ∨ (200 : Int) < (g.forbid.length : Int))) : Wp fns K34_15 f M (retQ F34 (FormPost g M0)) := by
 have hq := h.fr
 obtain ⟨hr1, hr2⟩ := h.gr.rules.row.sl
 rw [h.gr.rules.len] at hr2
 obtain ⟨hf1, hf2⟩ := h.gr.forbid.sl
 rw [List.length_map] at hf2
 obtain ⟨hc1, hc2⟩ := h.gr.rc.sl
 obtain ⟨hk1, hk2⟩ := h.gr.kc.sl
 have hbox := h.box
 obtain ⟨hw1, hw2, hw3, hw4⟩ := h.gr.wf.lens
 unfold gcs at hbox
 simp only [q1] at hq
 unfold K34_15
 by_cases c0 : g.start < 0
 ·have d0 : decide (g.start < 0) = true := decide_eq_true c0
  simp (disch := try exact dz) only [↓bxD, bA, simprocAttr, hq, hbox, d0]
  have e : formP g = (-1, 6) := by unfold formP headE; rw [if_neg hh1, if_pos (by omega)]
  unfold FormPost
  rw [e]
  exact ⟨rfl, h.ext⟩
 have d0 : decide (g.start < 0) = false := decide_eq_false c0
 by_cases c1 : g.names ≤ g.start
 ·have d1 : decide (g.names ≤ g.start) = true := decide_eq_true c1
  simp (disch := try exact dz) only [↓bxD, bA, simprocAttr, hq, hbox, d0, d1]
  have e : formP g = (-1, 6) := by unfold formP headE; rw [if_neg hh1, if_pos (by omega)]
  unfold FormPost
  rw [e]
  exact ⟨rfl, h.ext⟩
 have d1 : decide (g.names ≤ g.start) = false := decide_eq_false c1
 simp (disch := try exact dz) only [↓bxD, bA, simprocAttr, hq, hbox, d0, d1]
 show Wp fns K34_14 _ _ _
 generalize hf : (T.set _ _ _ : Fr) = f1
 have hq : X.ev f1 (.t (Ky.k1 Dg.d1)) = .p M0.n 0 := by rw [← hf]; simp (disch := try exact dz) only [bA, simprocAttr, hq]
 clear hf
 unfold K34_14
 by_cases c2 : (g.rules.length : Int) < (g.rc.length : Int)
 ·have d2 : decide ((g.rules.length : Int) < (g.rc.length : Int)) = true := decide_eq_true c2
  simp (disch := try exact dz) only [↓bxD, bA, simprocAttr, hq, hr2, hc2, hbox, d2]
  have e : formP g = (-1, 1) := by unfold formP headE; rw [if_neg hh1, if_neg (by omega), if_pos (by first | omega | simp_all)]
  unfold FormPost
  rw [e]
  exact ⟨rfl, h.ext⟩
 have d2 : decide ((g.rules.length : Int) < (g.rc.length : Int)) = false := decide_eq_false c2
 by_cases c3 : g.kinds < (g.kc.length : Int)
 ·have d3 : decide (g.kinds < (g.kc.length : Int)) = true := decide_eq_true c3
  simp (disch := try exact dz) only [↓bxD, bA, simprocAttr, hq, hr2, hc2, hk2, hbox, d2, d3]
  have e : formP g = (-1, 1) := by unfold formP headE; rw [if_neg hh1, if_neg (by omega), if_pos (by first | omega | simp_all)]
  unfold FormPost
  rw [e]
  exact ⟨rfl, h.ext⟩
 have d3 : decide (g.kinds < (g.kc.length : Int)) = false := decide_eq_false c3
 simp (disch := try exact dz) only [↓bxD, bA, simprocAttr, hq, hr2, hc2, hk2, hbox, d2, d3]
 refine bindP_call (classes_any h.gr.rc hw3) ?_
 rintro m M2 ⟨rfl, rfl⟩
 cases hb1 : clsB g.rc with
 | false =>
  simp (disch := try exact dz) only [↓bxD, bA, simprocAttr]
  have e : formP g = (-1, 1) := by unfold formP headE; rw [if_neg hh1, if_neg (by omega), if_pos (.inr (.inr (.inl hb1)))]
  unfold FormPost
  rw [e]
  exact ⟨rfl, h.ext⟩
 | true =>
  simp (disch := try exact dz) only [↓bxD, bA, simprocAttr, hq, hbox]
  refine bindP_call (classes_any h.gr.kc hw4) ?_
  rintro m M2 ⟨rfl, rfl⟩
  cases hb2 : clsB g.kc with
  | false =>
   simp (disch := try exact dz) only [↓bxD, bA, simprocAttr]
   have e : formP g = (-1, 1) := by unfold formP headE; rw [if_neg hh1, if_neg (by omega), if_pos (.inr (.inr (.inr hb2)))]
   unfold FormPost
   rw [e]
   exact ⟨rfl, h.ext⟩
  | true =>
   simp (disch := try exact dz) only [↓bxD, bA, simprocAttr]
   show Wp fns K34_13 _ _ _
   generalize hf : (T.set _ _ _ : Fr) = f2
   have hq : X.ev f2 (.t (Ky.k1 Dg.d1)) = .p M0.n 0 := by rw [← hf]; simp (disch := try exact dz) only [bA, simprocAttr, hq]
   refine form_rules ⟨h.gr, h.ext, h.lo0, h.lt, h.box, by simp only [q1]; exact hq⟩ ?_
   unfold headE
   rw [if_neg hh1, if_neg (by omega), if_neg]
   rintro (x | x | x | x)
   ·exact c2 x
   ·exact c3 x
   ·rw [hb1] at x; cases x
   ·rw [hb2] at x; cases x
theorem form_any {M : MH} {g : Gr} {vr vf vc vk : MV} {es : List (List MV)} (h : GrAt M vr vf vc vk es g) (hlo : M.lo ≤ M.n) : Cp fns 34 [.ag (gcs g vr vf vc vk)] M fun m M' => m = .tp [.i .i64 (formP g).1, .i .i64 (formP g).2] ∧ Ext M M' := by
 obtain ⟨hr1, hr2⟩ := h.rules.row.sl
 rw [h.rules.len] at hr2
 obtain ⟨hf1, hf2⟩ := h.forbid.sl
 rw [List.length_map] at hf2
 obtain ⟨hc1, hc2⟩ := h.rc.sl
 obtain ⟨hk1, hk2⟩ := h.kc.sl
 refine Cp_call (fn := F34) (by kernel_rfl) (Nat.le_of_ble_eq_true rfl) ?_
 show Wp fns B34 (T.set q0 (some (.ag (gcs g vr vf vc vk))) T.lf) M _
 unfold B34 gcs
 have hx : ∀ l, Ext M (M.push (.cs false 7 (ofL l 0))) := fun l => .push M _
 by_cases ca0 : g.names < 1
 ·have da0 : decide (g.names < 1) = true := decide_eq_true ca0
  simp (disch := try exact dz) only [↓bxD, bA, simprocAttr, da0]
  have e : formP g = (-1, 3) := by unfold formP headE; rw [if_pos (by omega)]
  rw [e]
  exact ⟨rfl, hx _⟩
 have da0 : decide (g.names < 1) = false := decide_eq_false ca0
 by_cases ca1 : 40 < g.names
 ·have da1 : decide (40 < g.names) = true := decide_eq_true ca1
  simp (disch := try exact dz) only [↓bxD, bA, simprocAttr, da0, da1]
  have e : formP g = (-1, 3) := by unfold formP headE; rw [if_pos (by omega)]
  rw [e]
  exact ⟨rfl, hx _⟩
 have da1 : decide (40 < g.names) = false := decide_eq_false ca1
 by_cases ca2 : g.kinds < 0
 ·have da2 : decide (g.kinds < 0) = true := decide_eq_true ca2
  simp (disch := try exact dz) only [↓bxD, bA, simprocAttr, da0, da1, da2]
  have e : formP g = (-1, 3) := by unfold formP headE; rw [if_pos (by omega)]
  rw [e]
  exact ⟨rfl, hx _⟩
 have da2 : decide (g.kinds < 0) = false := decide_eq_false ca2
 by_cases ca3 : 40 < g.kinds
 ·have da3 : decide (40 < g.kinds) = true := decide_eq_true ca3
  simp (disch := try exact dz) only [↓bxD, bA, simprocAttr, da0, da1, da2, da3]
  have e : formP g = (-1, 3) := by unfold formP headE; rw [if_pos (by omega)]
  rw [e]
  exact ⟨rfl, hx _⟩
 have da3 : decide (40 < g.kinds) = false := decide_eq_false ca3
 by_cases ca4 : (60 : Int) < (g.rules.length : Int)
 ·have da4 : decide ((60 : Int) < (g.rules.length : Int)) = true := decide_eq_true ca4
  simp (disch := try exact dz) only [↓bxD, bA, simprocAttr, hr2, da0, da1, da2, da3, da4]
  have e : formP g = (-1, 3) := by unfold formP headE; rw [if_pos (by omega)]
  rw [e]
  exact ⟨rfl, hx _⟩
 have da4 : decide ((60 : Int) < (g.rules.length : Int)) = false := decide_eq_false ca4
 by_cases ca5 : (200 : Int) < (g.forbid.length : Int)
 ·have da5 : decide ((200 : Int) < (g.forbid.length : Int)) = true := decide_eq_true ca5
  simp (disch := try exact dz) only [↓bxD, bA, simprocAttr, hr2, hf2, da0, da1, da2, da3, da4, da5]
  have e : formP g = (-1, 3) := by unfold formP headE; rw [if_pos (by omega)]
  rw [e]
  exact ⟨rfl, hx _⟩
 have da5 : decide ((200 : Int) < (g.forbid.length : Int)) = false := decide_eq_false ca5
 simp (disch := try exact dz) only [↓bxD, bA, simprocAttr, hr2, hf2, da0, da1, da2, da3, da4, da5]
 generalize hM1 : M.push _ = M1
 have hg0 : M1.get M.n = some (.cs false 7 (ofL (gcs g vr vf vc vk) 0)) := by rw [← hM1]; exact push_new _
 have hx1 : Ext M M1 := by rw [← hM1]; exact Ext.push M _
 have hn1 : M1.n = M.n + 1 := by rw [← hM1]; rfl
 have hl1 := hx1.lo
 clear hM1
 generalize hf : (T.set _ _ _ : Fr) = f1
 have hq : X.ev f1 (.t q1) = .p M.n 0 := by rw [← hf]; simp (disch := try exact dz) only [bA, simprocAttr]
 clear hf
 exact form_head2 ⟨h.ext hx1, hx1, hlo, by omega, hg0, hq⟩ (by omega)
structure NSt (M0 M : MH) (g : Gr) (vr vf vc vk : MV) (es : List (List MV)) (id : Nat) (l : List Bool) (f : Fr) : Prop where
 gr : GrAt M0 vr vf vc vk es g
 ok : GrOk g
 ext : Ext M0 M
 lo0 : M0.lo ≤ M0.n
 b0 : M.get M0.n = some (.cs false 7 (ofL (gcs g vr vf vc vk) 0))
 id1 : M0.n < id
 id2 : id < M.n
 row : BoolsAt M id l
 len : l.length = g.names.toNat
 q1 : X.ev f (.t q1) = .p M0.n 0
 q3 : X.ev f (.t q3) = .sl id 0 l.length 0
theorem allN_take {l : List Bool} {ar : List Int} {k : Nat} {z : Int} (h : ar[k]? = some z) : allN l (ar.take (k + 1)) = (allN l (ar.take k) && oneN l z) := by
 unfold allN
 rw [List.take_add_one, h, List.all_append]
 simp
theorem allN_le {l : List Bool} {ar : List Int} {k : Nat} (h : allN l (ar.take k) = false) : allN l ar = false := by
 have : allN l ar = (allN l (ar.take k) && allN l (ar.drop k)) := by unfold allN; rw [← List.all_append, List.take_append_drop]
 rw [this, h, Bool.false_and]
theorem null_in {M0 M : MH} {g : Gr} {vr vf vc vk : MV} {es : List (List MV)} {id : Nat} {l : List Bool} {f : Fr} (h : NSt M0 M g vr vf vc vk es id l f) {a0 a2 : Int} {ar : List Int} {ur : MV} {i n6 : Nat} {c : T MV} {b more : Bool}
  (hr : (a0, ar, a2) ∈ g.rules) (hn6 : n6 ≠ id) (hn7 : n6 ≠ M0.n) (hb6 : M.get n6 = some (.cs false 3 c)) (hC : At c 0 [.i .i64 a0, ur, .i .i64 a2]) (hu : IntRow M0 ur ar)
  (h6 : X.ev f (.t q6) = .p n6 0) (h5 : X.ev f (.t q5) = .i .i64 (i : Int)) (h8 : X.ev f (.t q8) = .i .i64 0) (h7 : X.ev f (.t q7) = .b b) (h4 : X.ev f (.t q4) = .b more) (Q : Post)
  (hn : ∀ f' M' l' more', NSt M0 M' g vr vf vc vk es id l' f' → X.ev f' (.t q5) = .i .i64 (i : Int) → X.ev f' (.t q4) = .b more' → ((l' = l ∧ more' = more ∧ (b && allN l ar) = false) ∨ ((b && allN l ar) = true ∧ l' = l.set a0.toNat true ∧ more' = true)) → Q .norm f' M') :
  Wp fns (.loop L54_2) f M (blockQ 4 (thenQ fns K54_3 Q)) := by
 have hu1 := hu.ext h.ext
 obtain ⟨hu3, hu4⟩ := hu1.sl
 obtain ⟨t, ht1, ht2, ht3, ht4⟩ := h.row.read
 obtain ⟨hl0, hl1⟩ := h.ok.left _ hr
 have hsym := h.ok.sym _ hr
 have hlen := h.ok.len _ hr
 simp only at hl0 hl1 hsym hlen
 have hll := h.len
 have hn40 := h.ok.n2
 have hid2 := h.id2
 have hid1 := h.id1
 have hlo := h.lo0
 have hel := h.ext.lo
 have c0 : cget c 0 = some (.i .i64 a0) := hC 0 _ rfl
 have c1 : cget c 1 = some ur := hC 1 _ rfl
 refine Wp_inv (σ := Nat) (fun k f1 M1 => M1 = M ∧ NSt M0 M g vr vf vc vk es id l f1 ∧ k ≤ ar.length ∧ X.ev f1 (.t q6) = .p n6 0 ∧ X.ev f1 (.t q5) = .i .i64 (i : Int) ∧ X.ev f1 (.t q8) = .i .i64 (k : Int) ∧ X.ev f1 (.t q7) = .b (b && allN l (ar.take k)) ∧ X.ev f1 (.t q4) = .b more) (fun k => ar.length - k) ?_ 0 ?_
 ·rintro k f1 M1 ⟨rfl, h, hk, h6, h5, h8, h7, h4⟩
  have hq1 := h.q1
  have hq3 := h.q3
  simp only [q1, q3, q4, q5, q6, q7, q8] at hq1 hq3 h4 h5 h6 h7 h8
  unfold L54_2
  by_cases hk1 : k < ar.length
  ·have d1 : decide ((k : Int) < (ar.length : Int)) = true := decide_eq_true (by omega)
   cases hv : (b && allN l (ar.take k)) with
   | true =>
    rw [hv] at h7
    obtain ⟨z, hz⟩ : ∃ z, ar[k]? = some z := ⟨_, List.getElem?_eq_getElem hk1⟩
    obtain ⟨ro, s, tt, hg, hid, hZ⟩ := hu1.read hz
    have hzs := hsym z (List.mem_of_getElem? hz)
    by_cases z0 : 0 ≤ z
    ·have dz : decide (0 ≤ z) = true := decide_eq_true z0
     have hzl := symB_lt hzs z0
     obtain ⟨zn, rfl⟩ : ∃ n : Nat, z = n := ⟨z.toNat, by omega⟩
     have hzn : zn < l.length := by omega
     obtain ⟨bz, hbz⟩ : ∃ x, l[zn]? = some x := ⟨_, List.getElem?_eq_getElem hzn⟩
     have hR := ht2 _ _ hbz
     simp (disch := try exact dzq) only [↓bxD, bA, simprocAttr, h6, h7, h8, hb6, hu4, c1, d1]
     show Wp fns K54_1 _ _ _
     unfold K54_1
     simp (disch := try exact dzq) only [↓bxD, bA, simprocAttr, hq3, h6, h8, hb6, c1, hg, hZ, dz, ht1, hR, ix_slc]
     show Wp fns K54_0 _ _ _
     unfold K54_0
     simp (disch := try exact dzq) only [↓bxD, bA, simprocAttr, h4, h5, h6, h8]
     have hone : oneN l (zn : Int) = bz := by unfold oneN; rw [Int.toNat_natCast, List.getD_eq_getElem?_getD, hbz]; simp
     refine ⟨k + 1, by omega, ⟨h.gr, h.ok, h.ext, h.lo0, h.b0, h.id1, h.id2, h.row, h.len, ?_, ?_⟩, by omega, rfl, by rw [allN_take hz, ← Bool.and_assoc, hv, hone]; rfl⟩
     ·simp only [bA, reduceCtorEq, hq1]
     ·simp only [bA, reduceCtorEq, hq3]
    ·have dz : decide (0 ≤ z) = false := decide_eq_false z0
     simp (disch := try exact dzq) only [↓bxD, bA, simprocAttr, h6, h7, h8, hb6, hu4, c1, d1]
     show Wp fns K54_1 _ _ _
     unfold K54_1
     simp (disch := try exact dzq) only [↓bxD, bA, simprocAttr, h6, h8, hb6, c1, hg, hZ, dz]
     show Wp fns K54_0 _ _ _
     unfold K54_0
     simp (disch := try exact dzq) only [↓bxD, bA, simprocAttr, h4, h5, h6, h8]
     have hone : oneN l z = false := by unfold oneN; rw [decide_eq_false z0]; rfl
     refine ⟨k + 1, by omega, ⟨h.gr, h.ok, h.ext, h.lo0, h.b0, h.id1, h.id2, h.row, h.len, ?_, ?_⟩, by omega, rfl, by rw [allN_take hz, ← Bool.and_assoc, hv, hone]; rfl⟩
     ·simp only [bA, reduceCtorEq, hq1]
     ·simp only [bA, reduceCtorEq, hq3]
   | false =>
    rw [hv] at h7
    simp (disch := try exact dzq) only [↓bxD, bA, simprocAttr, h6, h7, h8, hb6, hu4, c1, d1]
    show Wp fns K54_3 _ _ _
    unfold K54_3
    simp (disch := try exact dzq) only [↓bxD, bA, simprocAttr, h7]
    refine hn _ _ l more ⟨h.gr, h.ok, h.ext, h.lo0, h.b0, h.id1, h.id2, h.row, h.len, ?_, ?_⟩ ?_ ?_ (.inl ⟨rfl, rfl, by cases b with
     | false => rfl
     | true => rw [Bool.true_and] at hv ⊢; exact allN_le hv⟩)
    ·simp only [bA, reduceCtorEq, hq1]
    ·simp only [bA, reduceCtorEq, hq3]
    ·simp only [bA, reduceCtorEq, h5]
    ·simp only [bA, reduceCtorEq, h4]
  ·have d1 : decide ((k : Int) < (ar.length : Int)) = false := decide_eq_false (by omega)
   have hkl : k = ar.length := by omega
   subst hkl
   rw [List.take_length] at h7
   cases hv : (b && allN l ar) with
   | false =>
    rw [hv] at h7
    simp (disch := try exact dzq) only [↓bxD, bA, simprocAttr, h6, h8, hb6, hu4, c1, d1]
    show Wp fns K54_3 _ _ _
    unfold K54_3
    simp (disch := try exact dzq) only [↓bxD, bA, simprocAttr, h7]
    refine hn _ _ l more ⟨h.gr, h.ok, h.ext, h.lo0, h.b0, h.id1, h.id2, h.row, h.len, ?_, ?_⟩ ?_ ?_ (.inl ⟨rfl, rfl, hv⟩)
    ·simp only [bA, reduceCtorEq, hq1]
    ·simp only [bA, reduceCtorEq, hq3]
    ·simp only [bA, reduceCtorEq, h5]
    ·simp only [bA, reduceCtorEq, h4]
   | true =>
    rw [hv] at h7
    obtain ⟨an, rfl⟩ : ∃ n : Nat, a0 = n := ⟨a0.toNat, by omega⟩
    have han : an < l.length := by omega
    have hH := ht3 an han
    simp (disch := try exact dzq) only [↓bxD, bA, simprocAttr, h6, h8, hb6, hu4, c1, d1]
    show Wp fns K54_3 _ _ _
    unfold K54_3
    simp (disch := try exact dzq) only [↓bxD, bA, simprocAttr, hq3, h6, h7, hb6, c0, ht1, ix_slc]
    generalize hM2 : M1.set id _ = M2
    have hx2 : Ext M0 M2 := by rw [← hM2]; exact h.ext.set _ (by omega)
    have hrow2 : BoolsAt M2 id (l.set an true) := ⟨_, by rw [← hM2, set_same]; rfl, ht4 an true han⟩
    have hb2 : M2.get M0.n = some (.cs false 7 (ofL (gcs g vr vf vc vk) 0)) := by rw [← hM2, set_ne (by omega)]; exact h.b0
    have hn2 : M2.n = M1.n := by rw [← hM2]; rfl
    clear hM2
    refine hn _ _ (l.set an true) true ⟨h.gr, h.ok, hx2, h.lo0, hb2, h.id1, by omega, hrow2, by rw [List.length_set]; exact h.len, ?_, ?_⟩ ?_ ?_ (.inr ⟨hv, rfl, rfl⟩)
    ·simp only [bA, reduceCtorEq, hq1]
    ·simp (disch := try exact dzq) only [bA, simprocAttr, hq3, List.length_set]
    ·simp only [bA, reduceCtorEq, h5]
    ·simp only [bA, reduceCtorEq, h4]
 ·refine ⟨rfl, h, Nat.zero_le _, h6, h5, h8, ?_, h4⟩
  rw [h7]
  simp [allN]
theorem null_round {M0 M : MH} {g : Gr} {vr vf vc vk : MV} {es : List (List MV)} {id : Nat} {l0 : List Bool} {f : Fr} (h : NSt M0 M g vr vf vc vk es id l0 f) (hs : NulSound g l0) (Q : Post)
  (hn : ∀ f' M' l' more, NSt M0 M' g vr vf vc vk es id l' f' → X.ev f' (.t q4) = .b more → NulSound g l' → ((more = true ∧ falses l' < falses l0) ∨ (more = false ∧ l' = l0 ∧ NulClosed l0 g.rules)) → Q .norm f' M') : Wp fns K54_7 f M Q := by
 unfold K54_7
 simp (disch := try exact dzq) only [↓bxD, bA, simprocAttr]
 refine Wp_inv (σ := Nat × List Bool × Bool) (fun s f1 M1 => NSt M0 M1 g vr vf vc vk es id s.2.1 f1 ∧ s.1 ≤ g.rules.length ∧ X.ev f1 (.t q5) = .i .i64 (s.1 : Int) ∧ X.ev f1 (.t q4) = .b s.2.2 ∧ NulSound g s.2.1 ∧ ((s.2.2 = true ∧ falses s.2.1 < falses l0) ∨ (s.2.2 = false ∧ s.2.1 = l0 ∧ NulClosed l0 (g.rules.take s.1)))) (fun s => g.rules.length - s.1) ?_ (0, l0, false) ?_
 ·rintro ⟨i, l, more⟩ f1 M1 ⟨h, hi, h5, h4, hs, hc⟩
  simp only at h hi h5 h4 hs hc
  have hq1 := h.q1
  have hq3 := h.q3
  have hbox := h.b0
  have hlo := h.lo0
  have hn0 := h.ext.n
  have hl0 := h.ext.lo
  have hid1 := h.id1
  have hid2 := h.id2
  obtain ⟨hr1, hr2⟩ := h.gr.rules.row.sl
  rw [h.gr.rules.len] at hr2
  unfold gcs at hbox
  have hrl := h.ok.rl
  simp only [q1, q3, q4, q5] at hq1 hq3 h4 h5
  unfold L54_6
  by_cases hi' : i < g.rules.length
  ·have d1 : decide ((i : Int) < (g.rules.length : Int)) = true := decide_eq_true (by omega)
   obtain ⟨r, hr⟩ : ∃ r, g.rules[i]? = some r := ⟨_, List.getElem?_eq_getElem hi'⟩
   obtain ⟨a0, ar, a2⟩ := r
   have hmem := List.mem_of_getElem? hr
   obtain ⟨ur, hu1, hu2⟩ := h.gr.rules.get hr
   have hrow := h.gr.rules.row.ext h.ext
   obtain ⟨ro3, s3, t3, hg3, hid3, hat3⟩ := hrow.read hu1
   have hN : Ev.getN t3 3 (soff vr + i * 3) = some [.i .i64 a0, ur, .i .i64 a2] := hat3.getN
   obtain ⟨hu3, hu4⟩ := hu2.sl
   have hu6 := isSl_one hu3
   have hst : stOk 3 (.ag [.i .i64 a0, ur, .i .i64 a2]) = true := by simp only [stOk, cells_ag, isU_ag, all_cons, all_nil, one_i, hu6]; rfl
   obtain ⟨ha0, ha1⟩ := h.ok.left _ hmem
   simp only at ha0 ha1
   obtain ⟨an, rfl⟩ : ∃ n : Nat, a0 = n := ⟨a0.toNat, by omega⟩
   have hll := h.len
   have han : an < l.length := by omega
   obtain ⟨t, ht1, ht2, ht3, ht4⟩ := h.row.read
   obtain ⟨bb, hbb⟩ : ∃ x, l[an]? = some x := ⟨_, List.getElem?_eq_getElem han⟩
   have hR := ht2 _ _ hbb
   simp (disch := try exact dzq) only [↓bxD, bA, simprocAttr, hq1, h5, hr2, hbox, d1]
   show Wp fns K54_5 _ _ _
   unfold K54_5
   simp (disch := try exact dzq) only [↓bxD, bA, simprocAttr, hq1, hq3, h5, hbox, hg3, hN, ix_slc, ht1, hR]
   generalize hM2 : (M1.push _).set M1.n _ = M2
   have hx2 : Ext M1 M2 := by rw [← hM2]; exact (Ext.push M1 _).set _ (Nat.le_refl _)
   have h9 : M2.get M1.n = some (.cs false 3 (setN [.i .i64 (an : Int), ur, .i .i64 a2] 0 (ofL [.i .i64 0, .nils, .i .i64 0] 0))) := by rw [← hM2, set_same]
   have hn3 : M2.n = M1.n + 1 := by rw [← hM2]; rfl
   clear hM2
   refine null_in (i := i) (b := !bb) (more := more) ⟨h.gr, h.ok, h.ext.trans hx2, h.lo0, (hx2.old _ (by omega)).trans h.b0, h.id1, by omega, h.row.same (hx2.old _ hid2), h.len, ?_, ?_⟩ hmem (by omega) (by omega) h9 (at_setN _ _ _) hu2 (by simp only [bA, reduceCtorEq]) (by simp only [bA, reduceCtorEq, h5]) (by simp only [bA, reduceCtorEq]) (by simp only [bA, reduceCtorEq]) (by simp only [bA, reduceCtorEq, h4]) _ ?_
   ·simp only [bA, reduceCtorEq, hq1]
   ·simp only [bA, reduceCtorEq, hq3]
   intro f' M' l' more' h' h5' h4' hcase
   have h5q := h5'
   simp only [q5] at h5q
   simp (disch := try exact dzq) only [bA, simprocAttr]
   show Wp fns K54_4 _ _ _
   unfold K54_4
   simp (disch := try exact dzq) only [↓bxD, bA, simprocAttr, h5q]
   refine ⟨(i + 1, l', more'), by simp only; omega, ⟨h'.gr, h'.ok, h'.ext, h'.lo0, h'.b0, h'.id1, h'.id2, h'.row, h'.len, ?_, ?_⟩, by simp only; omega, rfl, ?_, ?_, ?_⟩
   ·have := h'.q1
    simp only [q1] at this
    simp (disch := try exact dzq) only [bA, simprocAttr, this]
   ·have := h'.q3
    simp only [q3] at this
    simp (disch := try exact dzq) only [bA, simprocAttr, this]
   ·exact h4'
   ·rcases hcase with ⟨rfl, _, _⟩ | ⟨hv, rfl, _⟩
    ·exact hs
    ·rw [Bool.and_eq_true] at hv
     exact hs.set hmem hv.2
   ·rcases hcase with ⟨rfl, rfl, hv⟩ | ⟨hv, rfl, rfl⟩
    ·rcases hc with hc | ⟨hc1, hc2, hc3⟩
     ·exact .inl hc
     ·refine .inr ⟨hc1, hc2, fun r hr' ha => ?_⟩
      rw [List.take_add_one, hr] at hr'
      rcases List.mem_append.1 hr' with h1 | h1
      ·exact hc3 r h1 ha
      ·simp only [Option.toList_some, List.mem_singleton] at h1
       subst h1
       subst hc2
       simp only at ha
       rw [ha, Bool.and_true] at hv
       simp only [Int.toNat_natCast]
       rw [hbb]
       cases bb with
       | true => rfl
       | false => cases hv
    ·left
     refine ⟨rfl, ?_⟩
     rw [Bool.and_eq_true] at hv
     have hb0 : l[an]? = some false := by rw [hbb]; cases bb with
      | true => cases hv.1
      | false => rfl
     have h1 := falses_set hb0
     rcases hc with ⟨_, hc⟩ | ⟨_, rfl, _⟩
     ·exact Nat.lt_trans h1 hc
     ·exact h1
  ·have d1 : decide ((i : Int) < (g.rules.length : Int)) = false := decide_eq_false (by omega)
   have hi2 : i = g.rules.length := by omega
   subst hi2
   rw [List.take_length] at hc
   simp (disch := try exact dzq) only [↓bxD, bA, simprocAttr, hq1, h5, hr2, hbox, d1]
   refine hn _ _ l more ⟨h.gr, h.ok, h.ext, h.lo0, h.b0, h.id1, h.id2, h.row, h.len, ?_, ?_⟩ ?_ hs hc
   ·simp only [bA, reduceCtorEq, hq1]
   ·simp only [bA, reduceCtorEq, hq3]
   ·simp only [bA, reduceCtorEq, h4]
 ·refine ⟨⟨h.gr, h.ok, h.ext, h.lo0, h.b0, h.id1, h.id2, h.row, h.len, ?_, ?_⟩, Nat.zero_le _, ?_, ?_, hs, .inr ⟨rfl, rfl, ?_⟩⟩
  ·have := h.q1
   simp only [q1] at this
   simp (disch := try exact dzq) only [bA, simprocAttr, this]
  ·have := h.q3
   simp only [q3] at this
   simp (disch := try exact dzq) only [bA, simprocAttr, this]
  ·simp only [bA, reduceCtorEq] <;> rfl
  ·simp only [bA, reduceCtorEq]
  ·intro r hr; simp at hr
theorem formed_any {M : MH} {g : Gr} {vr vf vc vk : MV} {es : List (List MV)} (h : GrAt M vr vf vc vk es g) (hlo : M.lo ≤ M.n) : Cp fns 20 [.ag (gcs g vr vf vc vk)] M fun m M' => m = .b (decide ((formP g).2 = 0)) ∧ Ext M M' := by
 have hG : ∀ l, l = gcs g vr vf vc vk → Ev.getN (ofL l 0) 7 0 = some (gcs g vr vf vc vk) := fun l e => by subst e; exact (at_ofL (gcs g vr vf vc vk)).getN
 have hG := hG [MV.i IntKind.i64 g.names, MV.i IntKind.i64 g.kinds, MV.i IntKind.i64 g.start, vr, vf, vc, vk] rfl
 refine Cp_call (fn := F20) (by kernel_rfl) (Nat.le_of_ble_eq_true rfl) ?_
 show Wp fns B20 (T.set q0 (some (.ag (gcs g vr vf vc vk))) T.lf) M _
 unfold B20
 rw [show gcs g vr vf vc vk = [MV.i IntKind.i64 g.names, MV.i IntKind.i64 g.kinds, MV.i IntKind.i64 g.start, vr, vf, vc, vk] from rfl]
 simp (disch := try exact dzq) only [↓bxD, bA, simprocAttr, hG]
 refine bindP_call (form_any (h.ext (.push M _)) (by show M.lo ≤ M.n + 1; omega)) ?_
 rintro m M2 ⟨rfl, hx⟩
 simp (disch := try exact dzq) only [↓bxD, bA, simprocAttr]
 exact (Ext.push M _).trans hx
theorem nullable_any {M : MH} {g : Gr} {vr vf vc vk : MV} {es : List (List MV)} (h : GrAt M vr vf vc vk es g) (hlo : M.lo ≤ M.n) : Cp fns 54 [.ag (gcs g vr vf vc vk)] M fun m M' => Ext M M' ∧ (((formP g).2 ≠ 0 ∧ m = .nils) ∨ ((formP g).2 = 0 ∧ ∃ l, NulVec g l ∧ BRow M' m l)) := by
 have hG : ∀ l, l = gcs g vr vf vc vk → Ev.getN (ofL l 0) 7 0 = some (gcs g vr vf vc vk) := fun l e => by subst e; exact (at_ofL (gcs g vr vf vc vk)).getN
 have hG := hG [MV.i IntKind.i64 g.names, MV.i IntKind.i64 g.kinds, MV.i IntKind.i64 g.start, vr, vf, vc, vk] rfl
 refine Cp_call (fn := F54) (by kernel_rfl) (Nat.le_of_ble_eq_true rfl) ?_
 show Wp fns B54 (T.set q0 (some (.ag (gcs g vr vf vc vk))) T.lf) M _
 unfold B54
 rw [show gcs g vr vf vc vk = [MV.i IntKind.i64 g.names, MV.i IntKind.i64 g.kinds, MV.i IntKind.i64 g.start, vr, vf, vc, vk] from rfl]
 simp (disch := try exact dzq) only [↓bxD, bA, simprocAttr, hG]
 generalize hM1 : M.push _ = M1
 have hg0 : M1.get M.n = some (.cs false 7 (ofL (gcs g vr vf vc vk) 0)) := by rw [← hM1]; exact push_new _
 have hx1 : Ext M M1 := by rw [← hM1]; exact Ext.push M _
 have hn1 : M1.n = M.n + 1 := by rw [← hM1]; rfl
 have hl1 := hx1.lo
 clear hM1
 refine bindP_call (formed_any (h.ext hx1) (by omega)) ?_
 rintro m M2 ⟨rfl, hx2⟩
 have hn2 := hx2.n
 have hl2 := hx2.lo
 have hg2 := (hx2.old M.n (by omega)).trans hg0
 by_cases hz : (formP g).2 = 0
 ·have dz : decide ((formP g).2 = 0) = true := decide_eq_true hz
  have hok := form_ok hz
  obtain ⟨nn, hnn⟩ : ∃ n : Nat, g.names = n := ⟨g.names.toNat, by have := hok.n1; omega⟩
  have hn40 := hok.n2
  have hg3 := hg2
  unfold gcs at hg3
  simp (disch := try exact dzq) only [↓bxD, bA, simprocAttr, dz, hnn]
  show Wp fns K54_10 _ _ _
  unfold K54_10
  simp (disch := try exact dzq) only [↓bxD, bA, simprocAttr, hg3, hnn, ev_mks, mks_ok]
  have hrow := BoolsAt.new (M := M2) nn
  generalize hM3 : M2.push _ = M3 at hrow
  have hx3 : Ext M2 M3 := by rw [← hM3]; exact Ext.push M2 _
  have hn3 : M3.n = M2.n + 1 := by rw [← hM3]; rfl
  clear hM3
  refine Wp_inv (σ := List Bool × Bool) (fun s f1 M1 => NSt M M1 g vr vf vc vk es M2.n s.1 f1 ∧ X.ev f1 (.t q4) = .b s.2 ∧ NulSound g s.1 ∧ (s.2 = false → NulClosed s.1 g.rules)) (fun s => 2 * falses s.1 + (if s.2 = true then 1 else 0)) ?_ (List.replicate nn false, true) ?_
  ·rintro ⟨l, more⟩ f1 M4 ⟨h4, ht, hs, hc⟩
   simp only at h4 ht hs hc
   have hq1 := h4.q1
   have hq3 := h4.q3
   simp only [q1, q3, q4] at hq1 hq3 ht
   unfold L54_8
   cases more with
   | true =>
    simp (disch := try exact dzq) only [↓bxD, bA, simprocAttr, ht]
    show Wp fns K54_7 _ _ _
    refine null_round ⟨h4.gr, h4.ok, h4.ext, h4.lo0, h4.b0, h4.id1, h4.id2, h4.row, h4.len, ?_, ?_⟩ hs _ ?_
    ·simp only [bA, reduceCtorEq, hq1]
    ·simp only [bA, reduceCtorEq, hq3]
    intro f' M' l' more' h' h4' hs' hcase
    refine ⟨(l', more'), ?_, h', h4', hs', fun e => ?_⟩
    ·rcases hcase with ⟨rfl, hlt⟩ | ⟨rfl, rfl, _⟩
     ·simp only [if_true]; omega
     ·simp
    ·rcases hcase with ⟨rfl, _⟩ | ⟨_, rfl, hc'⟩
     ·cases e
     ·exact hc'
   | false =>
    simp (disch := try exact dzq) only [↓bxD, bA, simprocAttr, ht]
    show Wp fns K54_9 _ _ _
    unfold K54_9
    simp (disch := try exact dzq) only [↓bxD, bA, simprocAttr, hq3]
    refine ⟨h4.ext, .inr ⟨hz, l, nul_vec h4.len hs (hc rfl), ?_⟩⟩
    exact h4.row.row h4.id2
  ·refine ⟨⟨h, hok, (hx1.trans hx2).trans hx3, hlo, (hx3.old _ (by omega)).trans hg2, by omega, by omega, hrow, by rw [List.length_replicate, hnn]; rfl, ?_, ?_⟩, ?_, fun a e => ?_, fun e => by cases e⟩
   ·simp only [bA, reduceCtorEq]
   ·simp (disch := try exact dzq) only [bA, simprocAttr, List.length_replicate]
   ·simp only [bA, reduceCtorEq]
   ·rw [List.getElem?_replicate] at e
    split at e <;> cases e
 ·have dz : decide ((formP g).2 = 0) = false := decide_eq_false hz
  simp (disch := try exact dzq) only [↓bxD, bA, simprocAttr, dz]
  exact ⟨hx1.trans hx2, .inl hz⟩
end Go.Proofs.YtpdcahaggacacaaDoor.K
set_option linter.unusedSimpArgs false
set_option linter.unusedVariables false
namespace Go.Proofs.YtpdcahaggacacaaDoor.Ev
open Go
def mostZ : Int := 1000000000
def shV (l : List Int) (s : Int) : Int := if s < 0 then 1 else l.getD s.toNat (-1)
def shOk (l : List Int) (r : List Int) : Bool := r.all fun s => decide (0 ≤ shV l s)
def shSum (l : List Int) (r : List Int) : Int := (r.map (shV l)).sum
def shRow (l : List Int) (r : List Int) : Int := if shOk l r = true then min (shSum l r) mostZ else -1
def shCond (l : List Int) (r : Int × List Int × Int) : Bool := decide (0 ≤ shRow l r.2.1) && (decide (l.getD r.1.toNat (-1) < 0) || decide (shRow l r.2.1 < l.getD r.1.toNat (-1)))
def shStep (l : List Int) (r : Int × List Int × Int) : List Int := if shCond l r = true then l.set r.1.toNat (shRow l r.2.1) else l
def shRnd (rs : List (Int × List Int × Int)) (l : List Int) : List Int := rs.foldl shStep l
def shIt (g : Gr) : Nat → List Int
 | 0 => List.replicate g.names.toNat (-1)
 | n + 1 => shRnd g.rules (shIt g n)
def ShStill (rs : List (Int × List Int × Int)) (l : List Int) : Prop := ∀ r ∈ rs, shCond l r = false
theorem sh_still : ∀ {rs : List (Int × List Int × Int)} {l : List Int}, ShStill rs l → shRnd rs l = l
 | [], l, h => rfl
 | r :: rs, l, h => by
  show shRnd rs (shStep l r) = l
  have e : shStep l r = l := by unfold shStep; rw [h r List.mem_cons_self]; rfl
  rw [e]
  exact sh_still fun x hx => h x (List.mem_cons_of_mem _ hx)
def ShVec (g : Gr) (l : List Int) : Prop := (∃ n, l = shIt g n) ∧ ShStill g.rules l
theorem shIt_stay {g : Gr} {n : Nat} (h : shRnd g.rules (shIt g n) = shIt g n) : ∀ k, shIt g (n + k) = shIt g n
 | 0 => rfl
 | k + 1 => by
  show shRnd g.rules (shIt g (n + k)) = _
  rw [shIt_stay h k, h]
theorem sh_ext {g : Gr} {a b : List Int} (ha : ShVec g a) (hb : ShVec g b) : a = b := by
 obtain ⟨⟨n, rfl⟩, h1⟩ := ha
 obtain ⟨⟨m, rfl⟩, h2⟩ := hb
 rcases Nat.le_total n m with h | h
 ·obtain ⟨k, rfl⟩ := Nat.exists_eq_add_of_le h
  exact (shIt_stay (sh_still h1) k).symm
 ·obtain ⟨k, rfl⟩ := Nat.exists_eq_add_of_le h
  exact shIt_stay (sh_still h2) k
structure ShIn (g : Gr) (l : List Int) : Prop where
 len : l.length = g.names.toNat
 lo : ∀ z ∈ l, -1 ≤ z ∧ z ≤ mostZ
 met : ∀ (a : Nat) z, l[a]? = some z → 0 ≤ z → ∃ r ∈ g.rules, r.1.toNat = a ∧ shOk l r.2.1 = true ∧ shRow l r.2.1 ≤ z
theorem shV_lo {l : List Int} (h : ∀ z ∈ l, -1 ≤ z ∧ z ≤ mostZ) (s : Int) : -1 ≤ shV l s ∧ shV l s ≤ mostZ := by
 unfold shV mostZ at *
 split
 ·omega
 ·rw [List.getD_eq_getElem?_getD]
  cases hx : l[s.toNat]? with
  | none => simp only [Option.getD_none]; omega
  | some z => exact h z (List.mem_of_getElem? hx)
def ShLe (a b : List Int) : Prop := ∀ s, 0 ≤ shV b s → 0 ≤ shV a s ∧ shV a s ≤ shV b s
theorem ShLe.ok {a b : List Int} (h : ShLe a b) {r : List Int} (hr : shOk b r = true) : shOk a r = true := by
 unfold shOk at *
 rw [List.all_eq_true] at *
 intro s hs
 have := hr s hs
 simp only [decide_eq_true_eq] at *
 exact (h s this).1
theorem ShLe.sum {a b : List Int} (h : ShLe a b) : ∀ {r : List Int}, shOk b r = true → shSum a r ≤ shSum b r
 | [], _ => Int.le_refl _
 | s :: r, hr => by
  unfold shOk at hr
  simp only [List.all_cons, Bool.and_eq_true, decide_eq_true_eq] at hr
  have h1 := (h s hr.1).2
  have h2 := ShLe.sum h (r := r) hr.2
  unfold shSum at *
  simp only [List.map_cons, List.sum_cons]
  omega
theorem shSum_pos {l : List Int} : ∀ {r : List Int}, shOk l r = true → 0 ≤ shSum l r
 | [], _ => Int.le_refl _
 | s :: r, hr => by
  unfold shOk at hr
  simp only [List.all_cons, Bool.and_eq_true, decide_eq_true_eq] at hr
  have h2 := shSum_pos (l := l) (r := r) hr.2
  unfold shSum at *
  simp only [List.map_cons, List.sum_cons]
  omega
theorem shRow_pos {l r : List Int} : 0 ≤ shRow l r ↔ shOk l r = true := by
 unfold shRow
 split
 ·rename_i h
  have := shSum_pos h
  unfold mostZ
  constructor
  ·intro _; exact h
  ·intro _; omega
 ·rename_i h
  constructor
  ·intro h'; omega
  ·intro h'; exact absurd h' h
theorem shRow_le {l r : List Int} : -1 ≤ shRow l r ∧ shRow l r ≤ mostZ := by
 unfold shRow mostZ
 split
 ·rename_i h
  have := shSum_pos h
  omega
 ·omega
theorem ShLe.row {a b : List Int} (h : ShLe a b) {r : List Int} (hr : shOk b r = true) : shRow a r ≤ shRow b r := by
 have := h.sum hr
 unfold shRow
 rw [hr, h.ok hr]
 simp only [if_true]
 unfold mostZ
 omega
theorem getD_setS {l : List Int} {i j : Nat} {z d : Int} (hi : i < l.length) : (l.set i z).getD j d = if i = j then z else l.getD j d := by
 rw [List.getD_eq_getElem?_getD, List.getD_eq_getElem?_getD, List.getElem?_set]
 by_cases e : i = j
 ·subst e; simp [hi]
 ·simp [e]
theorem ShLe.step {l : List Int} {i : Nat} {z : Int} (hi : i < l.length) (h0 : 0 ≤ z) (h1 : l.getD i (-1) < 0 ∨ z < l.getD i (-1)) : ShLe (l.set i z) l := fun s hs => by
 unfold shV at *
 by_cases h : s < 0
 ·simp only [h, if_true] at *; omega
 ·simp only [h, if_false] at *
  rw [getD_setS hi]
  by_cases e : i = s.toNat
  ·subst e; simp only [if_true]; omega
  ·simp only [e, if_false]; omega
theorem ShIn.step {g : Gr} {l : List Int} (h : ShIn g l) (hok : GrOk g) {r : Int × List Int × Int} (hr : r ∈ g.rules) : ShIn g (shStep l r) := by
 unfold shStep
 split
 ·rename_i hc
  unfold shCond at hc
  simp only [Bool.and_eq_true, Bool.or_eq_true, decide_eq_true_eq] at hc
  obtain ⟨hl0, hl1⟩ := hok.left r hr
  have hi : r.1.toNat < l.length := by rw [h.len]; omega
  have hle := ShLe.step hi hc.1 hc.2
  have hrw := @shRow_le l r.2.1
  refine ⟨by rw [List.length_set]; exact h.len, fun z hz => ?_, fun a z ha hz => ?_⟩
  ·rcases List.mem_or_eq_of_mem_set hz with h1 | h1
   ·exact h.lo z h1
   ·subst h1; exact hrw
  ·rw [List.getElem?_set] at ha
   by_cases e : r.1.toNat = a
   ·subst e
    rw [if_pos rfl, if_pos hi] at ha
    injection ha with ha
    refine ⟨r, hr, rfl, hle.ok (shRow_pos.1 hc.1), ?_⟩
    have := hle.row (shRow_pos.1 hc.1)
    omega
   ·rw [if_neg e] at ha
    obtain ⟨r', h1, h2, h3, h4⟩ := h.met a z ha hz
    exact ⟨r', h1, h2, hle.ok h3, Int.le_trans (hle.row h3) h4⟩
 ·exact h
theorem ShIn.fold {g : Gr} (hok : GrOk g) : ∀ {rs : List (Int × List Int × Int)} {l : List Int}, (∀ r ∈ rs, r ∈ g.rules) → ShIn g l → ShIn g (shRnd rs l)
 | [], l, hs, h => h
 | r :: rs, l, hs, h => ShIn.fold (rs := rs) (l := shStep l r) hok (fun x hx => hs x (List.mem_cons_of_mem _ hx)) (h.step hok (hs r List.mem_cons_self))
theorem ShIn.it {g : Gr} (hok : GrOk g) : ∀ n, ShIn g (shIt g n)
 | 0 => by
  refine ⟨List.length_replicate, fun z hz => ?_, fun a z ha hz => ?_⟩
  ·rw [(List.mem_replicate.1 hz).2]; unfold mostZ; omega
  ·have : z = -1 := by
    have := List.mem_of_getElem? ha
    exact (List.mem_replicate.1 this).2
   omega
 | n + 1 => ShIn.fold hok (fun r h => h) (ShIn.it hok n)
theorem ShVec.inn {g : Gr} {l : List Int} (h : ShVec g l) (hok : GrOk g) : ShIn g l := by
 obtain ⟨⟨n, rfl⟩, _⟩ := h
 exact ShIn.it hok n
def shW (z : Int) : Nat := if z < 0 then 1000000001 else z.toNat
def shMu (l : List Int) : Nat := (l.map shW).sum
theorem shMu_set : ∀ {l : List Int} {i : Nat} {z : Int}, i < l.length → shW z < shW (l.getD i (-1)) → shMu (l.set i z) < shMu l
 | [], i, z, hi, h => by simp at hi
 | x :: l, 0, z, hi, h => by
  rw [List.set_cons_zero]
  unfold shMu
  simp only [List.map_cons, List.sum_cons, List.getD_cons_zero] at *
  omega
 | x :: l, i + 1, z, hi, h => by
  rw [List.set_cons_succ]
  have := shMu_set (l := l) (i := i) (z := z) (by simpa using hi) (by simpa using h)
  unfold shMu at *
  simp only [List.map_cons, List.sum_cons] at *
  omega
theorem shMu_step {g : Gr} {l : List Int} (h : l.length = g.names.toNat) (hok : GrOk g) {r : Int × List Int × Int} (hr : r ∈ g.rules) (hc : shCond l r = true) : shMu (l.set r.1.toNat (shRow l r.2.1)) < shMu l := by
 unfold shCond at hc
 simp only [Bool.and_eq_true, Bool.or_eq_true, decide_eq_true_eq] at hc
 obtain ⟨hl0, hl1⟩ := hok.left r hr
 have hi : r.1.toNat < l.length := by rw [h]; omega
 have hrw := @shRow_le l r.2.1
 refine shMu_set hi ?_
 unfold mostZ at hrw
 unfold shW
 obtain ⟨h0, h1⟩ := hc
 rw [if_neg (by omega)]
 split <;> omega
end Go.Proofs.YtpdcahaggacacaaDoor.Ev
set_option linter.unusedSimpArgs false
set_option linter.unusedVariables false
namespace Go.Proofs.YtpdcahaggacacaaDoor.K
open Go Ev
set_option maxRecDepth 100000
set_option maxHeartbeats 4000000

theorem ev_wrm (c : CallM) (f : Fr) (M : MH) (g : WG) (x y z : X) : Iop.ev c f M (.wrm g x y z) = wrF g M (x.ev f) (y.ev f) (z.ev f) := rfl
def IntsAt (M : MH) (id : Nat) (l : List Int) : Prop := ∃ t, M.get id = some (.cs false 1 t) ∧ At t 0 (l.map (MV.i .i64))
theorem flat_ints : ∀ l : List Int, (ints l).flatten = l.map (MV.i .i64)
 | [] => rfl
 | b :: l => by
  show (MV.i .i64 b) :: (ints l).flatten = _
  rw [flat_ints l]; rfl
theorem IntsAt.same {M M' : MH} {id : Nat} {l : List Int} (h : IntsAt M id l) (e : M'.get id = M.get id) : IntsAt M' id l := let ⟨t, h1, h2⟩ := h; ⟨t, e.trans h1, h2⟩
theorem IntsAt.read {M : MH} {id : Nat} {l : List Int} (h : IntsAt M id l) : ∃ t, M.get id = some (.cs false 1 t) ∧ (∀ i b, l[i]? = some b → cget t (i * 1) = some (.i .i64 b)) ∧ (∀ i, i < l.length → hasB t 1 (i * 1) = true) ∧ ∀ i x, i < l.length → At (setN [.i .i64 x] (i * 1) t) 0 ((l.set i x).map (MV.i .i64)) := by
 obtain ⟨t, h1, h2⟩ := h
 refine ⟨t, h1, fun i b hb => ?_, fun i hi => has_at h2 (Nat.zero_le _) (by rw [List.length_map]; omega), fun i x hi => ?_⟩
 ·rw [Nat.mul_one]
  have := h2 i _ (by rw [List.getElem?_map, hb]; rfl)
  rwa [Nat.zero_add] at this
 ·rw [List.map_set]
  exact h2.set' i _ (by rw [List.length_map]; exact hi) (by omega)
theorem IntsAt.new {M : MH} (n : Nat) : IntsAt (M.push (.cs false 1 (ofL (zrow [.i .i64 0] n) 0))) M.n (List.replicate n 0) := ⟨_, push_new _, by rw [List.map_replicate, ← zrow_rep]; exact at_ofL _⟩
theorem IntsAt.row {M : MH} {id : Nat} {l : List Int} (h : IntsAt M id l) (hid : id < M.n) : IntRow M (.sl id 0 l.length 0) l := by
 obtain ⟨t, h1, h2⟩ := h
 refine ⟨fun e he => ?_, .inr ⟨id, 0, 0, false, 1, t, by rw [ints_len], h1, hid, ?_⟩⟩
 ·obtain ⟨b, _, rfl⟩ := List.mem_map.1 he; rfl
 ·rw [flat_ints]; exact h2
theorem one_ints (l : List Int) : allOne (l.map (MV.i .i64)) = true := by
 unfold allOne
 rw [List.all_eq_true]
 intro x hx
 obtain ⟨z, _, rfl⟩ := List.mem_map.1 hx
 rfl
theorem src_part {M : MH} {id off n d : Nat} {l : List Int} {ro : Bool} {s : Nat} {c : T MV} (hg : M.get id = some (.cs ro s c)) (hl : l.length = n) (h : At c off (l.map (MV.i .i64))) : srcM M 1 (.sl id off n d) = some (n, l.map (MV.i .i64)) := by
 subst hl
 cases l with
 | nil => rfl
 | cons x l =>
  unfold srcM
  simp only [List.length_cons, hg]
  have hn : Ev.getN c ((x :: l).map (MV.i .i64)).length off = _ := h.getN
  rw [List.length_map, List.length_cons] at hn
  rw [Nat.mul_one, hn]
theorem cpy_rep {M : MH} {id off n d m q : Nat} {y : MV} {l : List MV} {t : T MV} (hy : srcM M 1 y = some (m, l)) (hq : min m n = q + 1) (hl : q + 1 ≤ l.length) (ho : allOne (l.take (q + 1)) = true) (hg : M.get id = some (.cs false 1 t)) (hlo : M.lo ≤ id) (hb : hasB t (q + 1) off = true) : wrF .cpy M (.sl id off n d) y y = some (.i .i64 ((q : Int) + 1), M.set id (some (.cs false 1 (setN (l.take (q + 1)) off t)))) := by
 unfold wrF
 simp only [hy, hq, ho, ble_t' hl, hg, ble_t' hlo, hb, Bool.and_self, cond_true]
theorem at_rep {t : T MV} {k q n : Nat} {v z : Int} (hk : k + q ≤ n) (h : At t 0 ((List.replicate k v ++ List.replicate (n - k) z).map (MV.i .i64))) : At (setN (List.replicate q (MV.i .i64 v)) k t) 0 ((List.replicate (k + q) v ++ List.replicate (n - (k + q)) z).map (MV.i .i64)) := fun j x hj => by
 rw [cget_setN, Nat.zero_add]
 have h' := h j
 rw [Nat.zero_add] at h'
 simp only [List.map_append, List.map_replicate] at hj h'
 by_cases h1 : k ≤ j ∧ j < k + q
 ·rw [if_pos (by rw [List.length_replicate]; exact h1), List.getElem?_replicate, if_pos (by omega)]
  rw [List.getElem?_append_left (by rw [List.length_replicate]; omega), List.getElem?_replicate, if_pos (by omega)] at hj
  exact hj
 ·rw [if_neg (by rw [List.length_replicate]; exact h1)]
  refine h' x ?_
  by_cases h2 : j < k
  ·rw [List.getElem?_append_left (by rw [List.length_replicate]; omega), List.getElem?_replicate, if_pos (by omega)] at hj ⊢
   exact hj
  ·rw [List.getElem?_append_right (by rw [List.length_replicate]; omega), List.getElem?_replicate, List.length_replicate] at hj ⊢
   split at hj
   ·rw [if_pos (by omega)]; exact hj
   ·cases hj
theorem cv_i (k k' : IntKind) (z : Int) : cvIV k (.i k' z) = some (.i k (wrapF k z)) := rfl
theorem mul_run : ∀ (n : Nat), n ≤ 40 → ∀ M : MH, callF fns 20 67 [.i .u64 1, .i .u64 (n : Int)] M = some (.tp [.i .u64 0, .i .u64 (n : Int)], M)
 | 0, _, M => by kernel_rfl
 | 1, _, M => by kernel_rfl
 | 2, _, M => by kernel_rfl
 | 3, _, M => by kernel_rfl
 | 4, _, M => by kernel_rfl
 | 5, _, M => by kernel_rfl
 | 6, _, M => by kernel_rfl
 | 7, _, M => by kernel_rfl
 | 8, _, M => by kernel_rfl
 | 9, _, M => by kernel_rfl
 | 10, _, M => by kernel_rfl
 | 11, _, M => by kernel_rfl
 | 12, _, M => by kernel_rfl
 | 13, _, M => by kernel_rfl
 | 14, _, M => by kernel_rfl
 | 15, _, M => by kernel_rfl
 | 16, _, M => by kernel_rfl
 | 17, _, M => by kernel_rfl
 | 18, _, M => by kernel_rfl
 | 19, _, M => by kernel_rfl
 | 20, _, M => by kernel_rfl
 | 21, _, M => by kernel_rfl
 | 22, _, M => by kernel_rfl
 | 23, _, M => by kernel_rfl
 | 24, _, M => by kernel_rfl
 | 25, _, M => by kernel_rfl
 | 26, _, M => by kernel_rfl
 | 27, _, M => by kernel_rfl
 | 28, _, M => by kernel_rfl
 | 29, _, M => by kernel_rfl
 | 30, _, M => by kernel_rfl
 | 31, _, M => by kernel_rfl
 | 32, _, M => by kernel_rfl
 | 33, _, M => by kernel_rfl
 | 34, _, M => by kernel_rfl
 | 35, _, M => by kernel_rfl
 | 36, _, M => by kernel_rfl
 | 37, _, M => by kernel_rfl
 | 38, _, M => by kernel_rfl
 | 39, _, M => by kernel_rfl
 | 40, _, M => by kernel_rfl
 | n + 41, h, _ => absurd h (by omega)
theorem mul_any {M : MH} {n : Nat} (h : n ≤ 40) : Cp fns 67 [.i .u64 1, .i .u64 (n : Int)] M fun m M' => m = .tp [.i .u64 0, .i .u64 (n : Int)] ∧ M' = M := ⟨_, _, callA_of (mul_run n h M), rfl, rfl⟩
theorem wrap_u {z : Int} (h : 0 ≤ z) (h' : z < 9223372036854775808) : wrapF .u64 z = z := by
 rw [wrapF_eq]
 have e64 : (2 : Int) ^ 64 = 18446744073709551616 := by decide
 simp [IntKind.wrap, IntKind.bits, IntKind.signed, e64]
 omega
theorem cut_lo {id n k : Nat} (h : k ≤ n) : cutM 1 (.sl id 0 n 0) (some (.i .i64 (k : Int))) none = some (.sl id k (n - k) k) := by
 show (bif Nat.ble k n && Nat.ble n n then some (MV.sl id (0 + k * 1) (n - k) (0 + k)) else none) = _
 rw [ble_t' h, ble_t' (Nat.le_refl n), Nat.zero_add, Nat.zero_add, Nat.mul_one]
 rfl
theorem cut_hi {id n k : Nat} (h : k ≤ n) : cutM 1 (.sl id 0 n 0) none (some (.i .i64 (k : Int))) = some (.sl id 0 k 0) := by
 show (bif Nat.ble 0 k && Nat.ble k n then some (MV.sl id (0 + 0 * 1) (k - 0) (0 + 0)) else none) = _
 rw [ble_t' h, ble_t' (Nat.zero_le k)]
 rfl
theorem repeat_any {M : MH} {v : MV} {z : Int} {n : Nat} (h : IntRow M v [z]) (hn : 1 ≤ n ∧ n ≤ 40) (hlo : M.lo ≤ M.n) : Cp fns 60 [v, .i .i64 (n : Int)] M fun m M' => Ext M M' ∧ m = .sl M.n 0 n 0 ∧ IntsAt M' M.n (List.replicate n z) ∧ M'.n = M.n + 1 := by
 obtain ⟨hs1, hs2⟩ := h.sl
 refine Cp_call (fn := F60) (by kernel_rfl) (Nat.le_of_ble_eq_true rfl) ?_
 show Wp fns B60 (T.set q1 (some (.i .i64 (n : Int))) (T.set q0 (some v) T.lf)) M _
 unfold B60
 have d0 : decide ((n : Int) < 0) = false := decide_eq_false (by omega)
 have w1 : wrapF .u64 ((n : Nat) : Int) = (n : Int) := wrap_u (by omega) (by omega)
 have w2 : wrapF .u64 ((1 : Nat) : Int) = (1 : Int) := wrap_u (by omega) (by omega)
 have hs3 : slen v = 1 := hs2
 simp (disch := try exact dz) only [↓bxD, bA, simprocAttr, d0]
 show Wp fns K60_4 _ _ _
 unfold K60_4
 simp (disch := try exact dz) only [↓bxD, bA, simprocAttr, hs3, w1, cv_i]
 refine bindP_call (mul_any hn.2) ?_
 rintro m M1 ⟨rfl, rfl⟩
 have z0 : decide ((0 : Int) < 0) = false := rfl
 have z1 : decide ((9223372036854775807 : Int) < (n : Int)) = false := decide_eq_false (by omega)
 simp (disch := try exact dz) only [↓bxD, bA, reduceCtorEq, z0, z1]
 show Wp fns K60_3 _ _ _
 unfold K60_3
 simp (disch := try exact dz) only [↓bxD, bA, simprocAttr, cv_i]
 have w3 : wrapF .i64 (n : Int) = (n : Int) := wrap_in (by omega) (by omega)
 simp (disch := try exact dz) only [↓bxD, bA, simprocAttr, ev_mks, mks_ok]
 have hn0 := IntsAt.new (M := M1) n
 have hx0 : Ext M1 (M1.push (.cs false 1 (ofL (zrow [.i .i64 0] n) 0))) := .push M1 _
 have hn1 : (M1.push (.cs false 1 (ofL (zrow [.i .i64 0] n) 0))).n = M1.n + 1 := rfl
 generalize M1.push (.cs false 1 (ofL (zrow [.i .i64 0] n) 0)) = M2 at hn0 hx0 hn1
 obtain ⟨t, ht1, ht2⟩ := hn0
 have hl2 := hx0.lo
 have hsrc : srcM M2 1 v = some (1, [.i .i64 z]) := src_row (h.ext hx0)
 have hat := at_rep (k := 0) (q := 1) (n := n) (v := z) (by omega) (by simpa using ht2)
 have hcp := cpy_rep (M := M2) (id := M1.n) (off := 0) (n := n) (d := 0) (q := 0) hsrc (by omega) (Nat.le_refl 1) rfl ht1 (by omega) (has_at ht2 (Nat.le_refl 0) (by simp; omega))
 simp (disch := try exact dz) only [↓bxD, bA, simprocAttr, ev_wrm, hcp]
 generalize hM3 : M2.set M1.n _ = M3
 have hx3 : Ext M1 M3 := by rw [← hM3]; exact hx0.set _ (Nat.le_refl _)
 have hn3 : M3.n = M1.n + 1 := by rw [← hM3]; exact hn1
 have hi3 : IntsAt M3 M1.n (List.replicate 1 z ++ List.replicate (n - 1) 0) := ⟨_, by rw [← hM3, set_same]; rfl, hat⟩
 clear hM3
 refine Wp_inv (σ := Nat) (fun k f M' => 1 ≤ k ∧ k ≤ n ∧ Ext M1 M' ∧ M'.n = M1.n + 1 ∧ X.ev f (.t q7) = .sl M1.n 0 n 0 ∧ X.ev f (.t q8) = .i .i64 (k : Int) ∧ IntsAt M' M1.n (List.replicate k z ++ List.replicate (n - k) 0)) (fun k => n - k) ?_ 1 ?_
 ·rintro k f M' ⟨hk1, hk, hx, hnn, h7, h8, hI⟩
  have hll := hx.lo
  simp only [q7, q8] at h7 h8
  unfold L60_1
  by_cases hkn : k < n
  ·have d1 : decide ((k : Int) < (n : Int)) = true := decide_eq_true (by omega)
   obtain ⟨t', ht1', ht2'⟩ := hI
   obtain ⟨q, hq⟩ : ∃ q, min k (n - k) = q + 1 := ⟨min k (n - k) - 1, by omega⟩
   have hat0 : At t' 0 ((List.replicate k z).map (MV.i .i64)) := by rw [List.map_append] at ht2'; exact ht2'.left
   have hsrc := src_part (n := k) (d := 0) ht1' List.length_replicate hat0
   have htk : ((List.replicate k z).map (MV.i .i64)).take (q + 1) = List.replicate (q + 1) (MV.i .i64 z) := by rw [List.map_replicate, List.take_replicate, Nat.min_eq_left (by omega)]
   have hcp := cpy_rep (M := M') (id := M1.n) (off := k) (n := n - k) (d := k) (q := q) hsrc hq (by rw [List.length_map, List.length_replicate]; omega) (by rw [htk, ← List.map_replicate]; exact one_ints _) ht1' (by omega) (has_at ht2' (Nat.zero_le k) (by simp; omega))
   rw [htk] at hcp
   have hat := at_rep (k := k) (q := q + 1) (n := n) (v := z) (by omega) ht2'
   have c1 := cut_lo (id := M1.n) (n := n) (k := k) (by omega)
   have c2 := cut_hi (id := M1.n) (n := n) (k := k) (by omega)
   simp (disch := try exact dz) only [↓bxD, bA, simprocAttr, h7, h8, d1, len_slc]
   show Wp fns K60_0 _ _ _
   unfold K60_0
   simp (disch := try exact dz) only [↓bxD, bA, simprocAttr]
   refine Wp_dreg_of (by omega) ?_
   simp (disch := try exact dz) only [↓bxD, bA, simprocAttr, h7, h8, c1, c2, ev_wrm, hcp, Option.map_some, Option.map_none]
   exact ⟨k + (q + 1), by omega, by omega, by omega, hx.set _ (Nat.le_refl _), hnn, by congr 1, ⟨_, set_same _ _, hat⟩⟩
  ·have d1 : decide ((k : Int) < (n : Int)) = false := decide_eq_false (by omega)
   have hkn : k = n := by omega
   subst hkn
   simp (disch := try exact dz) only [↓bxD, bA, simprocAttr, h7, h8, d1, len_slc]
   show Wp fns K60_2 _ _ _
   unfold K60_2
   simp (disch := try exact dz) only [↓bxD, bA, simprocAttr, h7]
   rw [Nat.sub_self, List.replicate_zero, List.append_nil] at hI
   exact ⟨hx, hI, hnn⟩
 ·exact ⟨Nat.le_refl _, hn.1, hx3, hn3, by simp only [bA, reduceCtorEq], by simp only [bA, reduceCtorEq] <;> rfl, hi3⟩
theorem shOk_take {l ar : List Int} {k : Nat} {s : Int} (h : ar[k]? = some s) : shOk l (ar.take (k + 1)) = (shOk l (ar.take k) && decide (0 ≤ shV l s)) := by
 unfold shOk
 rw [List.take_add_one, h, List.all_append]
 simp
theorem shSum_take {l ar : List Int} {k : Nat} {s : Int} (h : ar[k]? = some s) : shSum l (ar.take (k + 1)) = shSum l (ar.take k) + shV l s := by
 unfold shSum
 rw [List.take_add_one, h, List.map_append, List.sum_append]
 simp
theorem shOk_le {l ar : List Int} {k : Nat} (h : shOk l (ar.take k) = false) : shOk l ar = false := by
 have : shOk l ar = (shOk l (ar.take k) && shOk l (ar.drop k)) := by unfold shOk; rw [← List.all_append, List.take_append_drop]
 rw [this, h, Bool.false_and]
theorem mn_i (k k' : IntKind) (a b : Int) : mnV (.i k a) (.i k' b) = some (.i k (if b < a then b else a)) := by
 show some (MV.i k (bif decide (b < a) then b else a)) = _
 by_cases h : b < a
 ·rw [decide_eq_true h, if_pos h]; rfl
 ·rw [decide_eq_false h, if_neg h]; rfl
theorem row_any {M : MH} {v ur : MV} {l ar : List Int} (h : IntRow M v l) (hu : IntRow M ur ar) (hl : ∀ z ∈ l, -1 ≤ z ∧ z ≤ mostZ) (hs : ∀ s ∈ ar, 0 ≤ s → s.toNat < l.length) (ha : ar.length ≤ 8) : Cp fns 61 [v, ur] M fun m M' => m = .i .i64 (shRow l ar) ∧ M' = M := by
 obtain ⟨hs1, hs2⟩ := h.sl
 obtain ⟨hu1, hu2⟩ := hu.sl
 refine Cp_call (fn := F61) (by kernel_rfl) (Nat.le_of_ble_eq_true rfl) ?_
 show Wp fns B61 (T.set q1 (some ur) (T.set q0 (some v) T.lf)) M _
 unfold B61
 simp (disch := try exact dzq) only [↓bxD, bA, simprocAttr, hu2]
 refine Wp_inv (σ := Nat) (fun k f M' => M' = M ∧ k ≤ ar.length ∧ X.ev f (.t q0) = v ∧ X.ev f (.t q9) = ur ∧ X.ev f (.t q10) = .i .i64 (ar.length : Int) ∧ X.ev f (.t q11) = .i .i64 (k : Int) ∧ shOk l (ar.take k) = true ∧ X.ev f (.t q5) = .i .i64 (min (shSum l (ar.take k)) mostZ)) (fun k => ar.length - k) ?_ 0 ?_
 ·rintro k f M' ⟨rfl, hk, h0, h9, h10, h11, ho, h5⟩
  simp only [q0, q5, q9, q10, q11] at h0 h5 h9 h10 h11
  have hp := shSum_pos ho
  unfold L61_4
  by_cases hk1 : k < ar.length
  ·have d1 : decide ((k : Int) < (ar.length : Int)) = true := decide_eq_true (by omega)
   obtain ⟨s, hsk⟩ : ∃ s, ar[k]? = some s := ⟨_, List.getElem?_eq_getElem hk1⟩
   obtain ⟨ro, sz, t, hg, hid, hC⟩ := hu.read hsk
   have hvb := shV_lo hl s
   have ho2 := shOk_take (l := l) hsk
   have hs2' := shSum_take (l := l) hsk
   rw [ho, Bool.true_and] at ho2
   unfold mostZ at hvb
   by_cases s0 : 0 ≤ s
   ·have ds : decide (0 ≤ s) = true := decide_eq_true s0
    obtain ⟨sn, rfl⟩ : ∃ n : Nat, s = n := ⟨s.toNat, by omega⟩
    have hsl := hs sn (List.mem_of_getElem? hsk) s0
    simp only [Int.toNat_natCast] at hsl
    obtain ⟨z, hz⟩ : ∃ z, l[sn]? = some z := ⟨_, List.getElem?_eq_getElem hsl⟩
    obtain ⟨ro2, sz2, t2, hg2, hid2, hC2⟩ := h.read hz
    have hzv : shV l (sn : Int) = z := by unfold shV; rw [if_neg (by omega), List.getD_eq_getElem?_getD, Int.toNat_natCast, hz]; rfl
    rw [hzv] at hvb ho2 hs2'
    by_cases z1 : z = -1
    ·subst z1
     have dm : decide ((-1 : Int) = Int.negSucc 0) = true := rfl
     have hf : shRow l ar = -1 := by
      unfold shRow
      rw [shOk_le (k := k + 1) (by rw [ho2]; rfl)]
      rfl
     simp (disch := try exact dzq) only [↓bxD, bA, simprocAttr, h10, h11, d1]
     show Wp fns K61_3 _ _ _
     unfold K61_3
     simp (disch := try exact dzq) only [↓bxD, bA, simprocAttr, h0, h9, h11, hg, hC, ds, hg2, hC2]
     show Wp fns K61_1 _ _ _
     unfold K61_1
     simp (disch := try exact dzq) only [↓bxD, bA, simprocAttr]
     exact congrArg (MV.i .i64) hf.symm
    ·have dz : decide (z = Int.negSucc 0) = false := decide_eq_false z1
     have dz2 : decide (0 ≤ z) = true := decide_eq_true (by omega)
     rw [dz2] at ho2
     have wa : wrapF .i64 (min (shSum l (ar.take k)) mostZ + z) = min (shSum l (ar.take k)) mostZ + z := wrap_in (by unfold mostZ; omega) (by unfold mostZ; omega)
     simp (disch := try exact dzq) only [↓bxD, bA, simprocAttr, h10, h11, d1]
     show Wp fns K61_3 _ _ _
     unfold K61_3
     simp (disch := try exact dzq) only [↓bxD, bA, simprocAttr, h0, h9, h11, hg, hC, ds, hg2, hC2]
     show Wp fns K61_1 _ _ _
     unfold K61_1
     simp (disch := try exact dzq) only [↓bxD, bA, reduceCtorEq, dz]
     show Wp fns K61_0 _ _ _
     unfold K61_0
     simp (disch := try exact dzq) only [↓bxD, bA, simprocAttr, h5, wa, mn_i]
     show Wp fns K61_2 _ _ _
     unfold K61_2
     simp (disch := try exact dzq) only [↓bxD, bA, simprocAttr, h0, h9, h10, h11]
     refine ⟨k + 1, by omega, by omega, rfl, ho2, congrArg (MV.i .i64) ?_⟩
     rw [hs2']
     unfold mostZ
     split <;> omega
   ·have ds : decide (0 ≤ s) = false := decide_eq_false s0
    have hzv : shV l s = 1 := by unfold shV; rw [if_pos (by omega)]
    rw [hzv] at ho2 hs2'
    have wa : wrapF .i64 (min (shSum l (ar.take k)) mostZ + 1) = min (shSum l (ar.take k)) mostZ + 1 := wrap_in (by unfold mostZ; omega) (by unfold mostZ; omega)
    simp (disch := try exact dzq) only [↓bxD, bA, simprocAttr, h10, h11, d1]
    show Wp fns K61_3 _ _ _
    unfold K61_3
    simp (disch := try exact dzq) only [↓bxD, bA, simprocAttr, h9, h11, hg, hC, ds]
    show Wp fns K61_1 _ _ _
    unfold K61_1
    simp (disch := try exact dzq) only [↓bxD, bA, simprocAttr, decide_false]
    show Wp fns K61_0 _ _ _
    unfold K61_0
    simp (disch := try exact dzq) only [↓bxD, bA, simprocAttr, h5, wa, mn_i]
    show Wp fns K61_2 _ _ _
    unfold K61_2
    simp (disch := try exact dzq) only [↓bxD, bA, simprocAttr, h0, h9, h10, h11]
    refine ⟨k + 1, by omega, by omega, rfl, ho2, congrArg (MV.i .i64) ?_⟩
    rw [hs2']
    unfold mostZ
    split <;> omega
  ·have d1 : decide ((k : Int) < (ar.length : Int)) = false := decide_eq_false (by omega)
   have hkl : k = ar.length := by omega
   subst hkl
   rw [List.take_length] at h5 ho
   simp (disch := try exact dzq) only [↓bxD, bA, simprocAttr, h10, h11, d1]
   show Wp fns K61_5 _ _ _
   unfold K61_5
   simp (disch := try exact dzq) only [↓bxD, bA, simprocAttr, h5]
   unfold shRow
   rw [ho]
   rfl
 ·exact ⟨rfl, Nat.zero_le _, by simp only [bA, reduceCtorEq], by simp only [bA, reduceCtorEq], by simp only [bA, reduceCtorEq], by simp only [bA, reduceCtorEq] <;> rfl, rfl, by simp only [bA, reduceCtorEq] <;> rfl⟩
def callvW (c : CallM) (M : MH) (v : MV) (l : List MV) : Option (MV × MH) := match v with
 | .fn (.func g) a d => c g (a ++ (l ++ d)) M
 | _ => none
theorem ev_callv (c : CallM) (f : Fr) (M : MH) (x : X) (l : List X) : Iop.ev c f M (.callv x l) = callvW c M (x.ev f) (l.map (X.ev f)) := rfl
theorem callv_fn (c : CallM) (M : MH) (g : Nat) (a d l : List MV) : callvW c M (.fn (.func g) a d) l = c g (a ++ (l ++ d)) M := rfl
def isN (i n : Int) : Bool := decide (0 ≤ i) && decide (i < n)
theorem number_any {M : MH} {i n : Int} : Cp fns 55 [.i .i64 i, .i .i64 n] M fun m M' => m = .b (isN i n) ∧ M' = M := by
 refine Cp_call (fn := F55) (by kernel_rfl) (Nat.le_of_ble_eq_true rfl) ?_
 show Wp fns B55 (T.set q1 (some (.i .i64 n)) (T.set q0 (some (.i .i64 i)) T.lf)) M _
 unfold B55
 by_cases h0 : 0 ≤ i
 ·have hd : decide (0 ≤ i) = true := decide_eq_true h0
  simp (disch := try exact dz) only [↓bxD, bA, simprocAttr, hd]
  unfold isN
  rw [hd, Bool.true_and]
 ·have hd : decide (0 ≤ i) = false := decide_eq_false h0
  simp (disch := try exact dz) only [↓bxD, bA, simprocAttr, hd]
  unfold isN
  rw [hd, Bool.false_and]
theorem class_any {M : MH} {c : Int} : Cp fns 65 [.i .i64 c] M fun m M' => m = .b (!(isN c 101)) ∧ M' = M := by
 refine Cp_call (fn := F65) (by kernel_rfl) (Nat.le_of_ble_eq_true rfl) ?_
 show Wp fns B65 (T.set q0 (some (.i .i64 c)) T.lf) M _
 unfold B65
 simp (disch := try exact dz) only [↓bxD, bA, simprocAttr]
 refine bindP_call number_any ?_
 rintro m M2 ⟨rfl, rfl⟩
 simp (disch := try exact dz) only [↓bxD, bA, simprocAttr]
theorem index_any {M : MH} {v : MV} {l : List Int} {k : Nat} {caps : List MV} {p : Int → Bool} (h : IntRow M v l) (hl : l.length ≤ 9223372036854775807) (hP : ∀ M' z, Ext M M' → z ∈ l → Cp fns k (.i .i64 z :: caps) M' fun m M'' => m = .b (p z) ∧ Ext M' M'') :
  Cp fns 66 [v, .fn (.func k) [] caps] M fun m M' => ∃ r, m = .i .i64 r ∧ decide (0 ≤ r) = l.any p ∧ Ext M M' := by
 obtain ⟨hs1, hs2⟩ := h.sl
 refine Cp_call (fn := F66) (by kernel_rfl) (Nat.le_of_ble_eq_true rfl) ?_
 show Wp fns B66 (T.set q1 (some (.fn (.func k) [] caps)) (T.set q0 (some v) T.lf)) M _
 unfold B66
 simp (disch := try exact dz) only [↓bxD, bA, simprocAttr, hs2]
 refine Wp_inv (σ := Nat) (fun i f M' => Ext M M' ∧ i ≤ l.length ∧ X.ev f (.t q0) = v ∧ X.ev f (.t q1) = .fn (.func k) [] caps ∧ X.ev f (.t q7) = .i .i64 (l.length : Int) ∧ X.ev f (.t q8) = .i .i64 (i : Int) ∧ (l.take i).any p = false) (fun i => l.length - i) ?_ 0 ?_
 ·rintro i f M' ⟨hx, hi, h0, h1, h7, h8, hc⟩
  simp only [q0, q1, q7, q8] at h0 h1 h7 h8
  unfold L66_2
  simp (disch := try exact dz) only [↓bxD, bA, simprocAttr, h7, h8]
  refine condP_split (fun hlt => ?_) (fun hge => ?_)
  ·have hi' : i < l.length := by omega
   obtain ⟨z, hz⟩ : ∃ z, l[i]? = some z := ⟨_, List.getElem?_eq_getElem hi'⟩
   obtain ⟨ro, s, t, hg, hid, hC⟩ := (h.ext hx).read hz
   have hall : l.any p = ((l.take (i + 1)).any p || (l.drop (i + 1)).any p) := by rw [← List.any_append, List.take_append_drop]
   have htk : (l.take (i + 1)).any p = p z := by rw [List.take_add_one, hz, List.any_append, hc]; simp
   simp (disch := try exact dz) only [↓bxD, bA, simprocAttr]
   show Wp fns K66_1 _ _ _
   unfold K66_1
   simp (disch := try exact dz) only [↓bxD, bA, simprocAttr, h0, h1, h8, hg, hC, ev_callv, callv_fn, List.nil_append, List.cons_append]
   refine bindP_call (hP _ z hx (List.mem_of_getElem? hz)) ?_
   rintro m M2 ⟨rfl, hx2⟩
   simp (disch := try exact dz) only [↓bxD, bA, simprocAttr]
   cases hp : p z with
   | true =>
    simp (disch := try exact dz) only [↓bxD, bA, simprocAttr]
    refine ⟨i, rfl, ?_, hx.trans hx2⟩
    rw [hall, htk, hp, Bool.true_or]
    exact decide_eq_true (by omega)
   | false =>
    simp (disch := try exact dz) only [↓bxD, bA, simprocAttr]
    show Wp fns K66_0 _ _ _
    unfold K66_0
    simp (disch := try exact dz) only [↓bxD, bA, simprocAttr, h0, h1, h7, h8]
    exact ⟨i + 1, by omega, hx.trans hx2, by omega, rfl, by rw [htk, hp]⟩
  ·have hi' : i = l.length := by omega
   subst hi'
   rw [List.take_length] at hc
   simp (disch := try exact dz) only [↓bxD, bA, simprocAttr]
   show Wp fns K66_3 _ _ _
   unfold K66_3
   simp (disch := try exact dz) only [↓bxD, bA, simprocAttr]
   exact ⟨-1, rfl, by rw [hc]; rfl, hx⟩
 ·exact ⟨.refl _, Nat.zero_le _, by simp only [bA, reduceCtorEq], by simp only [bA, reduceCtorEq], by simp only [bA, reduceCtorEq], by simp only [bA, reduceCtorEq] <;> rfl, rfl⟩
theorem contains_any {M : MH} {v : MV} {l : List Int} {k : Nat} {caps : List MV} {p : Int → Bool} (h : IntRow M v l) (hl : l.length ≤ 9223372036854775807) (hP : ∀ M' z, Ext M M' → z ∈ l → Cp fns k (.i .i64 z :: caps) M' fun m M'' => m = .b (p z) ∧ Ext M' M'') :
  Cp fns 59 [v, .fn (.func k) [] caps] M fun m M' => m = .b (l.any p) ∧ Ext M M' := by
 refine Cp_call (fn := F59) (by kernel_rfl) (Nat.le_of_ble_eq_true rfl) ?_
 show Wp fns B59 (T.set q1 (some (.fn (.func k) [] caps)) (T.set q0 (some v) T.lf)) M _
 unfold B59
 simp (disch := try exact dz) only [↓bxD, bA, simprocAttr]
 refine bindP_call (index_any h hl hP) ?_
 rintro m M2 ⟨r, rfl, hr, hx⟩
 simp (disch := try exact dz) only [↓bxD, bA, simprocAttr]
 exact ⟨by rw [hr], hx⟩
theorem areClasses_any {M : MH} {v : MV} {l : List Int} {n : Int} (h : IntRow M v l) (hl : l.length ≤ 9223372036854775807) : Cp fns 56 [v, .i .i64 n] M fun m M' => m = .b (decide ((l.length : Int) ≤ n) && clsB l) ∧ Ext M M' := by
 obtain ⟨hs1, hs2⟩ := h.sl
 refine Cp_call (fn := F56) (by kernel_rfl) (Nat.le_of_ble_eq_true rfl) ?_
 show Wp fns B56 (T.set q1 (some (.i .i64 n)) (T.set q0 (some v) T.lf)) M _
 unfold B56
 have hcl : clsB l = !(l.any fun z => !(isN z 101)) := by
  unfold clsB
  rw [List.not_any_eq_all_not]
  refine congrArg (fun q => l.all q) (funext fun z => ?_)
  rw [Bool.not_not]
  unfold isN
  rw [show decide (z < 101) = decide (z ≤ 100) from by rw [decide_eq_decide]; omega]
 by_cases h0 : (l.length : Int) ≤ n
 ·have hd : decide ((l.length : Int) ≤ n) = true := decide_eq_true h0
  simp (disch := try exact dz) only [↓bxD, bA, simprocAttr, hs2, hd]
  refine bindP_call (contains_any (p := fun z => !(isN z 101)) h hl fun M' z hx hz => ?_) ?_
  ·obtain ⟨m, M2, h1, h2, h3⟩ := class_any (M := M') (c := z)
   exact ⟨m, M2, h1, h2, by rw [h3]; exact .refl _⟩
  rintro m M2 ⟨rfl, hx⟩
  simp (disch := try exact dz) only [↓bxD, bA, simprocAttr, hd]
  exact ⟨by rw [hcl, Bool.true_and], hx⟩
 ·have hd : decide ((l.length : Int) ≤ n) = false := decide_eq_false h0
  simp (disch := try exact dz) only [↓bxD, bA, simprocAttr, hs2, hd]
  exact ⟨rfl, .refl _⟩
theorem isSymbol_any {M : MH} {g : Gr} {vr vf vc vk : MV} {s : Int} (hlo : M.lo ≤ M.n) (hs : Wf64 s) : Cp fns 58 [.ag (gcs g vr vf vc vk), .i .i64 s] M fun m M' => m = .b (symB g s) ∧ Ext M M' := by
 obtain ⟨hb1, hb2⟩ := hs
 refine Cp_call (fn := F58) (by kernel_rfl) (Nat.le_of_ble_eq_true rfl) ?_
 show Wp fns B58 (T.set q1 (some (.i .i64 s)) (T.set q0 (some (.ag (gcs g vr vf vc vk))) T.lf)) M _
 unfold B58 gcs
 have hx : ∀ l, Ext M (M.push (.cs false 7 (ofL l 0))) := fun l => .push M _
 by_cases h0 : s < 0
 ·have hd : decide (s < 0) = true := decide_eq_true h0
  simp (disch := try exact dz) only [↓bxD, bA, reduceCtorEq, Nat.reduceAdd, hd]
  refine bindP_call number_any ?_
  rintro m M2 ⟨rfl, rfl⟩
  simp (maxSteps := 4000000) (disch := first | omega | assumption | (simp only [bxS, bxV, stOk, Nat.reduceBEq, Nat.reduceEqDiff, Nat.reduceAdd]; done) | (simp only [bxU]; omega) | ((try apply has_setN); apply has_ofL; simp only [bxL]; omega)) only [↓bxD, bxP, bxQ, reduceCtorEq, bxR]
  exact ⟨by unfold symB isN; rw [if_pos h0, decide_eq_true (by omega), Bool.true_and]; rfl, hx _⟩
 ·have hd : decide (s < 0) = false := decide_eq_false h0
  simp (disch := try exact dz) only [↓bxD, bA, simprocAttr, hd]
  show Wp fns K58_0 _ _ _
  unfold K58_0
  simp (disch := try exact dz) only [↓bxD, bA, simprocAttr]
  refine bindP_call number_any ?_
  rintro m M2 ⟨rfl, rfl⟩
  simp (disch := try exact dz) only [↓bxD, bA, simprocAttr]
  exact ⟨by unfold symB isN; rw [if_neg h0, decide_eq_true (by omega), Bool.true_and], hx _⟩
theorem noSymbol_any {M : MH} {g : Gr} {vr vf vc vk : MV} {s : Int} {b : Nat} (hlo : M.lo ≤ M.n) (hs : Wf64 s) (hb : M.get b = some (.cs false 7 (ofL (gcs g vr vf vc vk) 0))) : Cp fns 57 [.i .i64 s, .p b 0] M fun m M' => m = .b (!(symB g s)) ∧ Ext M M' := by
 refine Cp_call (fn := F57) (by kernel_rfl) (Nat.le_of_ble_eq_true rfl) ?_
 show Wp fns B57 (T.set q1 (some (.p b 0)) (T.set q0 (some (.i .i64 s)) T.lf)) M _
 unfold B57
 have hG : Ev.getN (ofL (gcs g vr vf vc vk) 0) 7 0 = some (gcs g vr vf vc vk) := (at_ofL (gcs g vr vf vc vk)).getN
 simp (disch := try exact dz) only [↓bxD, bA, simprocAttr, hb, hG]
 refine bindP_call (isSymbol_any hlo hs) ?_
 rintro m M2 ⟨rfl, hx⟩
 simp (disch := try exact dz) only [↓bxD, bA, simprocAttr]
 exact hx
def numE : Option Int → Int
 | some e => e
 | none => 0
theorem ruleError_any {M : MH} {g : Gr} {vr vf vc vk ur : MV} {a0 a2 : Int} {ar : List Int} (hlo : M.lo ≤ M.n) (hu : IntRow M ur ar) (hw : ∀ z ∈ ar, Wf64 z) (hwl : ar.length ≤ 9223372036854775807) :
  Cp fns 44 [.ag (gcs g vr vf vc vk), .ag [.i .i64 a0, ur, .i .i64 a2]] M fun m M' => m = .i .i64 (numE (ruleE g (a0, ar, a2))) ∧ Ext M M' := by
 obtain ⟨hs1, hs2⟩ := hu.sl
 refine Cp_call (fn := F44) (by kernel_rfl) (Nat.le_of_ble_eq_true rfl) ?_
 show Wp fns B44 (T.set q1 (some (.ag [.i .i64 a0, ur, .i .i64 a2])) (T.set q0 (some (.ag (gcs g vr vf vc vk))) T.lf)) M _
 unfold B44
 have hG : ∀ l, l = gcs g vr vf vc vk → Ev.getN (ofL l 0) 7 0 = some (gcs g vr vf vc vk) := fun l e => by subst e; exact (at_ofL (gcs g vr vf vc vk)).getN
 have hall : ar.any (fun z => !(symB g z)) = !(ar.all (symB g)) := by rw [List.not_all_eq_any_not]
 rw [show gcs g vr vf vc vk = [MV.i IntKind.i64 g.names, MV.i IntKind.i64 g.kinds, MV.i IntKind.i64 g.start, vr, vf, vc, vk] from rfl]
 simp (disch := try exact dz) only [↓bxD, bA, simprocAttr]
 generalize hM1 : (M.push _).push _ = M1
 have hb0 : M1.get M.n = some (.cs false 7 (ofL [MV.i IntKind.i64 g.names, MV.i IntKind.i64 g.kinds, MV.i IntKind.i64 g.start, vr, vf, vc, vk] 0)) := by rw [← hM1, push_old (Nat.lt_succ_self _)]; exact push_new _
 have hb1 : M1.get (M.n + 1) = some (.cs false 3 (ofL [MV.i IntKind.i64 a0, ur, MV.i IntKind.i64 a2] 0)) := by rw [← hM1]; exact push_new (M := M.push _) _
 have hx1 : Ext M M1 := by rw [← hM1]; exact (Ext.push M _).trans (Ext.push _ _)
 have hn1 : M1.n = M.n + 2 := by rw [← hM1]; rfl
 have hl1 := hx1.lo
 clear hM1
 have hu1 := hu.ext hx1
 simp (disch := try exact dz) only [↓bxD, bA, simprocAttr, hb0, hb1]
 refine bindP_call number_any ?_
 rintro m M2 ⟨rfl, rfl⟩
 simp (disch := try exact dz) only [↓bxD, bA, simprocAttr]
 cases hn : isN a0 g.names with
 | false =>
  simp (disch := try exact dz) only [↓bxD, bA, simprocAttr]
  show Wp fns K44_0 _ _ _
  unfold K44_0
  simp (disch := try exact dz) only [↓bxD, bA, simprocAttr]
  exact ⟨by unfold ruleE okR; rw [if_pos (by unfold isN at hn; rw [hn, Bool.false_and])]; rfl, hx1⟩
 | true =>
  simp (disch := try exact dz) only [↓bxD, bA, simprocAttr, hb1]
  refine bindP_call (contains_any (p := fun z => !(symB g z)) hu1 hwl fun M' z hx hz => noSymbol_any (by have := hx.n; have := hx.lo; omega) (hw z hz) ((hx.old _ (by omega)).trans hb0)) ?_
  rintro m M2 ⟨rfl, hx2⟩
  have hb1' := (hx2.old _ (by omega)).trans hb1
  rw [hall]
  have hok : okR g (a0, ar, a2) = ar.all (symB g) := by unfold okR; unfold isN at hn; simp only; rw [hn, Bool.true_and]
  simp (disch := try exact dz) only [↓bxD, bA, simprocAttr]
  cases ha : ar.all (symB g) with
  | false =>
   simp (disch := try exact dz) only [bA, simprocAttr]
   show Wp fns K44_0 _ _ _
   unfold K44_0
   simp (disch := try exact dz) only [↓bxD, bA, simprocAttr]
   exact ⟨by unfold ruleE; rw [if_pos (by rw [hok, ha])]; rfl, hx1.trans hx2⟩
  | true =>
   simp (disch := try exact dz) only [bA, simprocAttr]
   show Wp fns K44_0 _ _ _
   unfold K44_0
   simp (disch := try exact dz) only [↓bxD, bA, simprocAttr, hs2, hb1']
   have hne : ¬ okR g (a0, ar, a2) = false := by rw [hok, ha]; simp
   by_cases e8 : (8 : Int) < (ar.length : Int)
   ·have d8 : decide ((8 : Int) < (ar.length : Int)) = true := decide_eq_true e8
    simp (disch := try exact dz) only [↓bxD, bA, simprocAttr, d8]
    exact ⟨by unfold ruleE; rw [if_neg hne, if_pos e8]; rfl, hx1.trans hx2⟩
   ·have d8 : decide ((8 : Int) < (ar.length : Int)) = false := decide_eq_false e8
    by_cases e9 : a2 < Int.negSucc 999
    ·have d9 : decide (a2 < Int.negSucc 999) = true := decide_eq_true e9
     simp (disch := try exact dz) only [↓bxD, bA, reduceCtorEq, hb1', d8, d9]
     exact ⟨by unfold ruleE; rw [if_neg hne, if_neg e8, if_pos (by simp only; omega)]; rfl, hx1.trans hx2⟩
    ·have d9 : decide (a2 < Int.negSucc 999) = false := decide_eq_false e9
     by_cases e10 : 1000 < a2
     ·have d10 : decide (1000 < a2) = true := decide_eq_true e10
      simp (disch := try exact dz) only [↓bxD, bA, reduceCtorEq, hb1', d8, d9, d10]
      exact ⟨by unfold ruleE; rw [if_neg hne, if_neg e8, if_pos (by simp only; omega)]; rfl, hx1.trans hx2⟩
     ·have d10 : decide (1000 < a2) = false := decide_eq_false e10
      simp (disch := try exact dz) only [↓bxD, bA, reduceCtorEq, hb1', d8, d9, d10]
      show Wp fns K44_1 _ _ _
      unfold K44_1
      simp (disch := try exact dz) only [↓bxD, bA, simprocAttr]
      exact ⟨by unfold ruleE; rw [if_neg hne, if_neg e8, if_neg (by simp only; omega)]; rfl, hx1.trans hx2⟩
theorem canForbid_any {M : MH} {g : Gr} {vr vf vc vk : MV} {es : List (List MV)} {x0 x1 x2 : Int} (h : GrAt M vr vf vc vk es g) (hlo : M.lo ≤ M.n) :
  Cp fns 45 [.ag (gcs g vr vf vc vk), .ag [.i .i64 x0, .i .i64 x1, .i .i64 x2]] M fun m M' => m = .b (!(badF g (x0, x1, x2))) ∧ Ext M M' := by
 obtain ⟨hr1, hr2⟩ := h.rules.row.sl
 rw [h.rules.len] at hr2
 refine Cp_call (fn := F45) (by kernel_rfl) (Nat.le_of_ble_eq_true rfl) ?_
 show Wp fns B45 (T.set q1 (some (.ag [.i .i64 x0, .i .i64 x1, .i .i64 x2])) (T.set q0 (some (.ag (gcs g vr vf vc vk))) T.lf)) M _
 unfold B45
 rw [show gcs g vr vf vc vk = [MV.i IntKind.i64 g.names, MV.i IntKind.i64 g.kinds, MV.i IntKind.i64 g.start, vr, vf, vc, vk] from rfl]
 simp (disch := try exact dz) only [↓bxD, bA, simprocAttr]
 generalize hM1 : (M.push _).push _ = M1
 have hb0 : M1.get M.n = some (.cs false 7 (ofL [MV.i IntKind.i64 g.names, MV.i IntKind.i64 g.kinds, MV.i IntKind.i64 g.start, vr, vf, vc, vk] 0)) := by rw [← hM1, push_old (Nat.lt_succ_self _)]; exact push_new _
 have hb1 : M1.get (M.n + 1) = some (.cs false 3 (ofL [MV.i IntKind.i64 x0, MV.i .i64 x1, MV.i IntKind.i64 x2] 0)) := by rw [← hM1]; exact push_new (M := M.push _) _
 have hx1 : Ext M M1 := by rw [← hM1]; exact (Ext.push M _).trans (Ext.push _ _)
 have hn1 : M1.n = M.n + 2 := by rw [← hM1]; rfl
 have hl1 := hx1.lo
 clear hM1
 have h1 := h.ext hx1
 simp (disch := try exact dz) only [↓bxD, bA, simprocAttr, hr2, hb0, hb1, ixA_0]
 refine bindP_call number_any ?_
 rintro m M2 ⟨rfl, rfl⟩
 simp (disch := try exact dz) only [↓bxD, bA, simprocAttr]
 cases c0 : isN x0 (g.rules.length : Int) with
 | false =>
  simp (disch := try exact dz) only [↓bxD, bA, simprocAttr]
  unfold isN at c0
  simp only [Bool.and_eq_false_iff, decide_eq_false_iff_not] at c0
  exact ⟨by unfold badF; rw [if_pos (by simp only; omega)]; rfl, hx1⟩
 | true =>
 simp (disch := try exact dz) only [↓bxD, bA, simprocAttr, hr2, hb0, hb1, ixA_2]
 refine bindP_call number_any ?_
 rintro m M2 ⟨rfl, rfl⟩
 simp (disch := try exact dz) only [↓bxD, bA, simprocAttr]
 cases c2 : isN x2 (g.rules.length : Int) with
 | false =>
  simp (disch := try exact dz) only [↓bxD, bA, simprocAttr]
  unfold isN at c2
  simp only [Bool.and_eq_false_iff, decide_eq_false_iff_not] at c2
  exact ⟨by unfold badF; rw [if_pos (by simp only; omega)]; rfl, hx1⟩
 | true =>
 simp (disch := try exact dz) only [↓bxD, bA, simprocAttr]
 unfold isN at c0 c2
 simp only [Bool.and_eq_true, decide_eq_true_eq] at c0 c2
 obtain ⟨k0, rfl⟩ : ∃ k : Nat, x0 = (k : Int) := ⟨x0.toNat, by omega⟩
 obtain ⟨k2, rfl⟩ : ∃ k : Nat, x2 = (k : Int) := ⟨x2.toNat, by omega⟩
 obtain ⟨⟨a0, ar, a2⟩, hA⟩ : ∃ z, g.rules[k0]? = some z := ⟨_, List.getElem?_eq_getElem (by omega)⟩
 obtain ⟨⟨b0, br, b2⟩, hB⟩ : ∃ z, g.rules[k2]? = some z := ⟨_, List.getElem?_eq_getElem (by omega)⟩
 obtain ⟨ua, hua, hura⟩ : ∃ u1, es[k0]? = some [.i .i64 a0, u1, .i .i64 a2] ∧ IntRow _ u1 ar := h1.rules.get hA
 obtain ⟨ub, hub, hurb⟩ : ∃ u1, es[k2]? = some [.i .i64 b0, u1, .i .i64 b2] ∧ IntRow _ u1 br := h1.rules.get hB
 obtain ⟨hsa1, hsa2⟩ := hura.sl
 obtain ⟨ro, s, t, hg, hid, hT⟩ := h1.rules.row.read hua
 obtain ⟨ro2, s2, t2, hg2, hid2, hT2⟩ := h1.rules.row.read hub
 have ea0 : cget t (soff vr + k0 * 3) = some (.i .i64 a0) := hT 0 _ rfl
 have ea1 : cget t (soff vr + k0 * 3 + 1) = some ua := hT 1 _ rfl
 obtain rfl : t2 = t := by rw [hg] at hg2; injection hg2 with e; injection e with _ _ e; exact e.symm
 have eb0 : cget t2 (soff vr + k2 * 3) = some (.i .i64 b0) := hT2 0 _ rfl
 have hwl : ar.length ≤ 9223372036854775807 := (h.wf.rules _ (List.mem_of_getElem? hA)).2.2.2
 have hbadF : badF g ((k0 : Int), x1, (k2 : Int)) = if x1 < 0 ∨ (ar.length : Int) ≤ x1 then true else match ar[x1.toNat]? with
   | some s => decide (s ≠ b0)
   | none => true := by
  unfold badF
  rw [if_neg (by simp only; omega)]
  simp only [Int.toNat_natCast, hA, hB]
  rfl
 rw [hbadF]
 show Wp fns K45_0 _ _ _
 unfold K45_0
 simp (disch := try exact dz) only [↓bxD, bA, simprocAttr, hb0, hb1, ixA_0, hg, ea1]
 refine Wp_dreg_of (by omega) ?_
 simp (disch := try exact dz) only [↓bxD, bA, simprocAttr, hb1, ixA_1, hsa2]
 refine bindP_call number_any ?_
 rintro m M2 ⟨rfl, rfl⟩
 simp (disch := try exact dz) only [↓bxD, bA, simprocAttr]
 cases c1 : isN x1 (ar.length : Int) with
 | false =>
  simp (disch := try exact dz) only [↓bxD, bA, simprocAttr]
  unfold isN at c1
  simp only [Bool.and_eq_false_iff, decide_eq_false_iff_not] at c1
  rw [if_pos (by omega)]
  show Wp fns IC.ret _ _ _
  simp (disch := try exact dz) only [↓bxD, bA, simprocAttr]
  exact hx1
 | true =>
  have hc1 := c1
  unfold isN at c1
  simp only [Bool.and_eq_true, decide_eq_true_eq] at c1
  obtain ⟨k1, rfl⟩ : ∃ k : Nat, x1 = (k : Int) := ⟨x1.toNat, by omega⟩
  obtain ⟨z, hz⟩ : ∃ z, ar[k1]? = some z := ⟨_, List.getElem?_eq_getElem (by omega)⟩
  obtain ⟨ro3, s3, t3, hg3, hid3, hT3⟩ := hura.read hz
  simp (disch := try exact dz) only [↓bxD, bA, simprocAttr, hb0, hb1, ixA_1, ixA_2, hg, eb0, hg3, hT3]
  rw [if_neg (by omega), Int.toNat_natCast, hz]
  show Wp fns IC.ret _ _ _
  simp (disch := try exact dz) only [↓bxD, bA, simprocAttr]
  exact ⟨by simp, hx1⟩
theorem wholeError_any {M : MH} {g : Gr} {vr vf vc vk : MV} {es : List (List MV)} (h : GrAt M vr vf vc vk es g) (hlo : M.lo ≤ M.n) :
  Cp fns 43 [.ag (gcs g vr vf vc vk)] M fun m M' => m = .i .i64 (numE (headE g)) ∧ Ext M M' := by
 obtain ⟨hr1, hr2⟩ := h.rules.row.sl
 rw [h.rules.len] at hr2
 obtain ⟨hf1, hf2⟩ := h.forbid.sl
 rw [List.length_map] at hf2
 obtain ⟨hc1, hc2⟩ := h.rc.sl
 obtain ⟨hk1, hk2⟩ := h.kc.sl
 obtain ⟨hw1, hw2, hw3, hw4⟩ := h.wf.lens
 refine Cp_call (fn := F43) (by kernel_rfl) (Nat.le_of_ble_eq_true rfl) ?_
 show Wp fns B43 (T.set q0 (some (.ag (gcs g vr vf vc vk))) T.lf) M _
 unfold B43
 rw [show gcs g vr vf vc vk = [MV.i IntKind.i64 g.names, MV.i IntKind.i64 g.kinds, MV.i IntKind.i64 g.start, vr, vf, vc, vk] from rfl]
 simp (disch := try exact dz) only [↓bxD, bA, simprocAttr]
 generalize hM1 : M.push _ = M1
 have hb0 : M1.get M.n = some (.cs false 7 (ofL [MV.i IntKind.i64 g.names, MV.i IntKind.i64 g.kinds, MV.i IntKind.i64 g.start, vr, vf, vc, vk] 0)) := by rw [← hM1]; exact push_new _
 have hx1 : Ext M M1 := by rw [← hM1]; exact .push M _
 have hn1 : M1.n = M.n + 1 := by rw [← hM1]; rfl
 have hl1 := hx1.lo
 clear hM1
 have h1 := h.ext hx1
 have hq1 : ∀ (c : Prop) [Decidable c], c → decide c = true := fun c _ h => decide_eq_true h
 by_cases ca0 : g.names < 1
 ·have da0 : decide (g.names < 1) = true := decide_eq_true ca0
  simp (disch := try exact dz) only [↓bxD, bA, simprocAttr, da0]
  show Wp fns K43_1 _ _ _
  unfold K43_1
  simp (disch := try exact dz) only [↓bxD, bA, simprocAttr]
  exact ⟨by unfold headE; rw [if_pos (by omega)]; rfl, hx1⟩
 have da0 : decide (g.names < 1) = false := decide_eq_false ca0
 by_cases ca1 : 40 < g.names
 ·have da1 : decide (40 < g.names) = true := decide_eq_true ca1
  simp (disch := try exact dz) only [↓bxD, bA, simprocAttr, hb0, da0, da1]
  show Wp fns K43_1 _ _ _
  unfold K43_1
  simp (disch := try exact dz) only [↓bxD, bA, simprocAttr]
  exact ⟨by unfold headE; rw [if_pos (by omega)]; rfl, hx1⟩
 have da1 : decide (40 < g.names) = false := decide_eq_false ca1
 by_cases ca2 : g.kinds < 0
 ·have da2 : decide (g.kinds < 0) = true := decide_eq_true ca2
  simp (disch := try exact dz) only [↓bxD, bA, simprocAttr, hb0, da0, da1, da2]
  show Wp fns K43_1 _ _ _
  unfold K43_1
  simp (disch := try exact dz) only [↓bxD, bA, simprocAttr]
  exact ⟨by unfold headE; rw [if_pos (by omega)]; rfl, hx1⟩
 have da2 : decide (g.kinds < 0) = false := decide_eq_false ca2
 by_cases ca3 : 40 < g.kinds
 ·have da3 : decide (40 < g.kinds) = true := decide_eq_true ca3
  simp (disch := try exact dz) only [↓bxD, bA, simprocAttr, hb0, da0, da1, da2, da3]
  show Wp fns K43_1 _ _ _
  unfold K43_1
  simp (disch := try exact dz) only [↓bxD, bA, simprocAttr]
  exact ⟨by unfold headE; rw [if_pos (by omega)]; rfl, hx1⟩
 have da3 : decide (40 < g.kinds) = false := decide_eq_false ca3
 by_cases ca4 : (60 : Int) < (g.rules.length : Int)
 ·have da4 : decide ((60 : Int) < (g.rules.length : Int)) = true := decide_eq_true ca4
  simp (disch := try exact dz) only [↓bxD, bA, simprocAttr, hr2, hb0, da0, da1, da2, da3, da4]
  show Wp fns K43_1 _ _ _
  unfold K43_1
  simp (disch := try exact dz) only [↓bxD, bA, simprocAttr]
  exact ⟨by unfold headE; rw [if_pos (by omega)]; rfl, hx1⟩
 have da4 : decide ((60 : Int) < (g.rules.length : Int)) = false := decide_eq_false ca4
 by_cases ca5 : (200 : Int) < (g.forbid.length : Int)
 ·have da5 : decide ((200 : Int) < (g.forbid.length : Int)) = true := decide_eq_true ca5
  simp (disch := try exact dz) only [↓bxD, bA, simprocAttr, hr2, hf2, hb0, da0, da1, da2, da3, da4, da5]
  show Wp fns K43_1 _ _ _
  unfold K43_1
  simp (disch := try exact dz) only [↓bxD, bA, simprocAttr]
  exact ⟨by unfold headE; rw [if_pos (by omega)]; rfl, hx1⟩
 have da5 : decide ((200 : Int) < (g.forbid.length : Int)) = false := decide_eq_false ca5
 simp (disch := try exact dz) only [↓bxD, bA, simprocAttr, hr2, hf2, hb0, da0, da1, da2, da3, da4, da5]
 show Wp fns K43_1 _ _ _
 unfold K43_1
 simp (disch := try exact dz) only [↓bxD, bA, simprocAttr, hb0]
 have hh1 : ¬ (g.names < 1 ∨ 40 < g.names ∨ g.kinds < 0 ∨ 40 < g.kinds ∨ (60 : Int) < (g.rules.length : Int) ∨ (200 : Int) < (g.forbid.length : Int)) := by omega
 refine bindP_call number_any ?_
 rintro m M2 ⟨rfl, rfl⟩
 simp (disch := try exact dz) only [↓bxD, bA, simprocAttr]
 cases cs : isN g.start g.names with
 | false =>
  simp (disch := try exact dz) only [↓bxD, bA, simprocAttr]
  unfold isN at cs
  simp only [Bool.and_eq_false_iff, decide_eq_false_iff_not] at cs
  exact ⟨by unfold headE; rw [if_neg hh1, if_pos (by omega)]; rfl, hx1⟩
 | true =>
 simp (disch := try exact dz) only [↓bxD, bA, simprocAttr, hr2, hb0]
 unfold isN at cs
 simp only [Bool.and_eq_true, decide_eq_true_eq] at cs
 refine bindP_call (areClasses_any h1.rc hw3) ?_
 rintro m M2 ⟨rfl, hx2⟩
 have hb2 := (hx2.old _ (by omega)).trans hb0
 have hn2 := hx2.n
 simp (disch := try exact dz) only [↓bxD, bA, simprocAttr]
 have hh2 : headE g = if (g.rules.length : Int) < (g.rc.length : Int) ∨ g.kinds < (g.kc.length : Int) ∨ clsB g.rc = false ∨ clsB g.kc = false then some 1 else none := by
  unfold headE
  rw [if_neg hh1, if_neg (by omega)]
 cases e1 : (decide ((g.rc.length : Int) ≤ (g.rules.length : Int)) && clsB g.rc) with
 | false =>
  simp (disch := try exact dz) only [↓bxD, bA, simprocAttr]
  show Wp fns K43_0 _ _ _
  unfold K43_0
  simp (disch := try exact dz) only [↓bxD, bA, simprocAttr]
  simp only [Bool.and_eq_false_iff, decide_eq_false_iff_not] at e1
  exact ⟨by rw [hh2, if_pos (by rcases e1 with e1 | e1; exact .inl (by omega); exact .inr (.inr (.inl e1)))]; rfl, hx1.trans hx2⟩
 | true =>
 simp (disch := try exact dz) only [↓bxD, bA, simprocAttr, hb2]
 refine bindP_call (areClasses_any (h1.kc.ext hx2) hw4) ?_
 rintro m M3 ⟨rfl, hx3⟩
 simp (disch := try exact dz) only [↓bxD, bA, simprocAttr]
 simp only [Bool.and_eq_true, decide_eq_true_eq] at e1
 cases e2 : (decide ((g.kc.length : Int) ≤ g.kinds) && clsB g.kc) with
 | false =>
  simp (disch := try exact dz) only [bA, simprocAttr]
  show Wp fns K43_0 _ _ _
  unfold K43_0
  simp (disch := try exact dz) only [↓bxD, bA, simprocAttr]
  simp only [Bool.and_eq_false_iff, decide_eq_false_iff_not] at e2
  exact ⟨by rw [hh2, if_pos (by rcases e2 with e2 | e2; exact .inr (.inl (by omega)); exact .inr (.inr (.inr e2)))]; rfl, (hx1.trans hx2).trans hx3⟩
 | true =>
 simp (disch := try exact dz) only [bA, simprocAttr]
 show Wp fns K43_0 _ _ _
 unfold K43_0
 simp (disch := try exact dz) only [↓bxD, bA, simprocAttr]
 show Wp fns K43_2 _ _ _
 unfold K43_2
 simp (disch := try exact dz) only [↓bxD, bA, simprocAttr]
 simp only [Bool.and_eq_true, decide_eq_true_eq] at e2
 refine ⟨?_, (hx1.trans hx2).trans hx3⟩
 rw [hh2, if_neg]
 ·rfl
 ·rintro (x | x | x | x)
  ·omega
  ·omega
  ·rw [e1.2] at x; cases x
  ·rw [e2.2] at x; cases x
theorem pform_forb {M0 M : MH} {g : Gr} {vr vf vc vk : MV} {es : List (List MV)} {f : Fr} (h : Rdy M0 M g vr vf vc vk es f) (hh : headE g = none) (hr : findE (ruleE g) g.rules 0 = none) : Wp fns K30_7 f M (retQ F30 (FormPost g M0)) := by
 have hq := h.fr
 have hbox := h.box
 obtain ⟨hf1, hf2⟩ := h.gr.forbid.sl
 rw [List.length_map] at hf2
 simp only [q1] at hq
 unfold gcs at hbox
 unfold K30_7
 simp (disch := try exact dz) only [↓bxD, bA, simprocAttr, hq, hbox, hf2]
 refine Wp_inv (σ := Nat) (fun i f M' => Rdy M0 M' g vr vf vc vk es f ∧ i ≤ g.forbid.length ∧ X.ev f (.t q32) = vf ∧ X.ev f (.t q33) = .i .i64 (g.forbid.length : Int) ∧ X.ev f (.t q34) = .i .i64 (i : Int) ∧ (g.forbid.take i).any (badF g) = false) (fun i => g.forbid.length - i) ?_ 0 ?_
 ·rintro i f M' ⟨h, hi, h32, h33, h34, hp⟩
  have hq := h.fr
  have hlo := h.lo0
  have hn := h.ext.n
  have hl := h.ext.lo
  have hlt := h.lt
  have hbox := h.box
  obtain ⟨hw1, hw2, _, _⟩ := h.gr.wf.lens
  simp only [q1, q32, q33, q34] at hq h32 h33 h34
  unfold gcs at hbox
  unfold L30_5
  simp (disch := try exact dz) only [↓bxD, bA, simprocAttr, h33, h34]
  refine condP_split (fun hlt2 => ?_) (fun hge => ?_)
  ·have hi' : i < g.forbid.length := by omega
   obtain ⟨x, hz⟩ : ∃ x, g.forbid[i]? = some x := ⟨_, List.getElem?_eq_getElem hi'⟩
   obtain ⟨x0, x1, x2⟩ := x
   obtain ⟨ro, s, t, hg, hid, hat⟩ := h.gr.forbid.read (i := i) (e := trip (x0, x1, x2)) (by rw [List.getElem?_map, hz]; rfl)
   have hN : Ev.getN t 3 (soff vf + i * 3) = some (trip (x0, x1, x2)) := hat.getN
   unfold trip at hN
   have hany : g.forbid.any (badF g) = ((g.forbid.take (i + 1)).any (badF g) || (g.forbid.drop (i + 1)).any (badF g)) := by rw [← List.any_append, List.take_append_drop]
   have htk : (g.forbid.take (i + 1)).any (badF g) = badF g (x0, x1, x2) := by rw [List.take_add_one, hz, List.any_append, hp]; simp
   have hbad : badF g (x0, x1, x2) = true → formP g = (-1, 6) := fun e => by unfold formP; rw [hh, hr]; simp only; rw [if_pos (by rw [hany, htk, e]; rfl)]
   have hG : Ev.getN (ofL [MV.i IntKind.i64 g.names, MV.i IntKind.i64 g.kinds, MV.i IntKind.i64 g.start, vr, vf, vc, vk] 0) 7 0 = some (gcs g vr vf vc vk) := (at_ofL (gcs g vr vf vc vk)).getN
   simp (disch := try exact dz) only [↓bxD, bA, simprocAttr]
   show Wp fns K30_4 _ _ _
   unfold K30_4
   simp (disch := try exact dz) only [↓bxD, bA, simprocAttr, hq, h32, h34, hg, hN]
   generalize hM2 : (M'.push _).set M'.n _ = M2
   have hx2 : Ext M' M2 := by rw [← hM2]; exact (Ext.push M' _).set _ (Nat.le_refl _)
   have hn2 := hx2.n
   have hl2 := hx2.lo
   have h9 : M2.get M'.n = some (.cs false 3 (setN [.i .i64 x0, .i .i64 x1, .i .i64 x2] 0 (ofL [.i .i64 0, .i .i64 0, .i .i64 0] 0))) := by rw [← hM2, set_same]
   have hbox2 := (hx2.old _ hlt).trans hbox
   have hgr := h.gr.ext hx2
   clear hM2
   have hxx := h.ext.trans hx2
   simp (disch := try exact dz) only [↓bxD, bA, simprocAttr, hG, hbox, h9]
   refine bindP_call (canForbid_any hgr (by omega)) ?_
   rintro m M3 ⟨rfl, hx3⟩
   simp (disch := try exact dz) only [↓bxD, bA, simprocAttr]
   cases hb : badF g (x0, x1, x2) with
   | true =>
    simp (disch := try exact dz) only [↓bxD, bA, simprocAttr]
    have e : formP g = (-1, 6) := hbad hb
    unfold FormPost
    rw [e]
    exact ⟨rfl, hxx.trans hx3⟩
   | false =>
    simp (disch := try exact dz) only [↓bxD, bA, simprocAttr]
    show Wp fns K30_3 _ _ _
    unfold K30_3
    simp (disch := try exact dz) only [↓bxD, bA, simprocAttr, h32, h33, h34]
    have hn3 := hx3.n
    refine ⟨i + 1, by omega, ⟨hgr.ext hx3, hxx.trans hx3, h.lo0, by omega, (hx3.old _ (by omega)).trans hbox2, by simp only [bA, reduceCtorEq, hq]⟩, by omega, rfl, by rw [htk, hb]⟩
  ·have hi' : i = g.forbid.length := by omega
   subst hi'
   rw [List.take_length] at hp
   simp (disch := try exact dz) only [↓bxD, bA, simprocAttr]
   show Wp fns K30_6 _ _ _
   unfold K30_6
   simp (disch := try exact dz) only [↓bxD, bA, simprocAttr]
   have e : formP g = (-1, 0) := by unfold formP; rw [hh, hr]; simp only; rw [if_neg (by rw [hp]; simp)]
   unfold FormPost
   rw [e]
   exact ⟨rfl, h.ext⟩
 ·exact ⟨⟨h.gr, h.ext, h.lo0, h.lt, h.box, by simp only [bA, reduceCtorEq, hq]⟩, Nat.zero_le _, by simp only [bA, reduceCtorEq], by simp only [bA, reduceCtorEq], by simp only [bA, reduceCtorEq] <;> rfl, rfl⟩
theorem pform_rules {M0 M : MH} {g : Gr} {vr vf vc vk : MV} {es : List (List MV)} {f : Fr} (h : Rdy M0 M g vr vf vc vk es f) (hh : headE g = none) : Wp fns K30_8 f M (retQ F30 (FormPost g M0)) := by
 have hq := h.fr
 have hbox := h.box
 obtain ⟨hr1, hr2⟩ := h.gr.rules.row.sl
 rw [h.gr.rules.len] at hr2
 simp only [q1] at hq
 unfold gcs at hbox
 unfold K30_8
 simp (disch := try exact dz) only [↓bxD, bA, simprocAttr, hq, hbox, hr2]
 refine Wp_inv (σ := Nat) (fun i f M' => Rdy M0 M' g vr vf vc vk es f ∧ i ≤ g.rules.length ∧ X.ev f (.t q16) = vr ∧ X.ev f (.t q17) = .i .i64 (g.rules.length : Int) ∧ X.ev f (.t q18) = .i .i64 (i : Int) ∧ findE (ruleE g) g.rules 0 = findE (ruleE g) (g.rules.drop i) i) (fun i => g.rules.length - i) ?_ 0 ?_
 ·rintro i f M' ⟨h, hi, h16, h17, h18, hp⟩
  have hq := h.fr
  have hlo := h.lo0
  have hn := h.ext.n
  have hl := h.ext.lo
  have hlt := h.lt
  have hbox := h.box
  obtain ⟨hw1, hw2, _, _⟩ := h.gr.wf.lens
  simp only [q1, q16, q17, q18] at hq h16 h17 h18
  unfold gcs at hbox
  unfold L30_2
  simp (disch := try exact dz) only [↓bxD, bA, simprocAttr, h17, h18]
  refine condP_split (fun hlt2 => ?_) (fun hge => ?_)
  ·have hi' : i < g.rules.length := by omega
   obtain ⟨x, hz⟩ : ∃ x, g.rules[i]? = some x := ⟨_, List.getElem?_eq_getElem hi'⟩
   obtain ⟨a0, ar, a2⟩ := x
   obtain ⟨ua, hua, hura⟩ : ∃ u1, es[i]? = some [.i .i64 a0, u1, .i .i64 a2] ∧ IntRow _ u1 ar := h.gr.rules.get hz
   obtain ⟨hsu1, hsu2⟩ := hura.sl
   obtain ⟨ro, s, t, hg, hid, hat⟩ := h.gr.rules.row.read hua
   have hN : Ev.getN t 3 (soff vr + i * 3) = some [.i .i64 a0, ua, .i .i64 a2] := hat.getN
   have hone : MV.one ua = true := isSl_one hsu1
   have hwr := h.gr.wf.rules _ (List.mem_of_getElem? hz)
   have hdrop := findE_drop (f := ruleE g) hz
   have hG : Ev.getN (ofL [MV.i IntKind.i64 g.names, MV.i IntKind.i64 g.kinds, MV.i IntKind.i64 g.start, vr, vf, vc, vk] 0) 7 0 = some (gcs g vr vf vc vk) := (at_ofL (gcs g vr vf vc vk)).getN
   have hst : stOk 3 (.ag [.i .i64 a0, ua, .i .i64 a2]) = true := by cases ua <;> first | rfl | cases hsu1
   simp (disch := try exact dz) only [↓bxD, bA, simprocAttr]
   show Wp fns K30_1 _ _ _
   unfold K30_1
   simp (disch := try exact dz) only [↓bxD, bA, simprocAttr, hq, h16, h18, hg, hN]
   generalize hM2 : (M'.push _).set M'.n _ = M2
   have hx2 : Ext M' M2 := by rw [← hM2]; exact (Ext.push M' _).set _ (Nat.le_refl _)
   have hn2 := hx2.n
   have hl2 := hx2.lo
   have h9 : M2.get M'.n = some (.cs false 3 (setN [.i .i64 a0, ua, .i .i64 a2] 0 (ofL [.i .i64 0, .nils, .i .i64 0] 0))) := by rw [← hM2, set_same]
   have hbox2 := (hx2.old _ hlt).trans hbox
   have hgr := h.gr.ext hx2
   clear hM2
   have hxx := h.ext.trans hx2
   simp (disch := try exact dz) only [↓bxD, bA, simprocAttr, hG, hbox, h9]
   refine bindP_call (ruleError_any (by omega) (hura.ext hx2) hwr.2.1 hwr.2.2.2) ?_
   rintro m M3 ⟨rfl, hx3⟩
   simp (disch := try exact dz) only [↓bxD, bA, simprocAttr]
   cases hb : ruleE g (a0, ar, a2) with
   | some e =>
    have e0' : e ≠ 0 := by
     unfold ruleE at hb
     split at hb
     ·cases hb; decide
     ·split at hb
      ·cases hb; decide
      ·split at hb
       ·cases hb; decide
       ·cases hb
    rw [hb] at hdrop
    simp (disch := try exact dz) only [simprocAttr, numE]
    refine condP_split (fun _ => ?_) (fun hc => (hc e0').elim)
    simp (disch := try exact dz) only [↓bxD, bA, simprocAttr]
    have e : formP g = ((i : Int), e) := by unfold formP; rw [hh, hp, hdrop]
    unfold FormPost
    rw [e]
    exact ⟨rfl, hxx.trans hx3⟩
   | none =>
    rw [hb] at hdrop
    simp (disch := try exact dz) only [numE]
    refine condP_split (fun hc => (hc rfl).elim) (fun _ => ?_)
    simp (disch := try exact dz) only [↓bxD, bA, simprocAttr]
    show Wp fns K30_0 _ _ _
    unfold K30_0
    simp (disch := try exact dz) only [↓bxD, bA, simprocAttr, h16, h17, h18]
    have hn3 := hx3.n
    refine ⟨i + 1, by omega, ⟨hgr.ext hx3, hxx.trans hx3, h.lo0, by omega, (hx3.old _ (by omega)).trans hbox2, by simp only [bA, reduceCtorEq, hq]⟩, by omega, rfl, hp.trans hdrop⟩
  ·have hi' : i = g.rules.length := by omega
   subst hi'
   simp (disch := try exact dz) only [↓bxD, bA, simprocAttr]
   show Wp fns K30_7 _ _ _
   exact pform_forb ⟨h.gr, h.ext, h.lo0, h.lt, h.box, by simp only [bA, reduceCtorEq, hq]⟩ hh (by rw [hp, List.drop_length]; rfl)
 ·exact ⟨⟨h.gr, h.ext, h.lo0, h.lt, h.box, by simp only [bA, reduceCtorEq, hq]⟩, Nat.zero_le _, by simp only [bA, reduceCtorEq], by simp only [bA, reduceCtorEq], by simp only [bA, reduceCtorEq] <;> rfl, rfl⟩
theorem prog_form {M : MH} {g : Gr} {vr vf vc vk : MV} {es : List (List MV)} (h : GrAt M vr vf vc vk es g) (hlo : M.lo ≤ M.n) : Cp fns 30 [.ag (gcs g vr vf vc vk)] M fun m M' => m = .tp [.i .i64 (formP g).1, .i .i64 (formP g).2] ∧ Ext M M' := by
 have hG : ∀ l, l = gcs g vr vf vc vk → Ev.getN (ofL l 0) 7 0 = some (gcs g vr vf vc vk) := fun l e => by subst e; exact (at_ofL (gcs g vr vf vc vk)).getN
 have hG := hG [MV.i IntKind.i64 g.names, MV.i IntKind.i64 g.kinds, MV.i IntKind.i64 g.start, vr, vf, vc, vk] rfl
 refine Cp_call (fn := F30) (by kernel_rfl) (Nat.le_of_ble_eq_true rfl) ?_
 show Wp fns B30 (T.set q0 (some (.ag (gcs g vr vf vc vk))) T.lf) M _
 unfold B30
 rw [show gcs g vr vf vc vk = [MV.i IntKind.i64 g.names, MV.i IntKind.i64 g.kinds, MV.i IntKind.i64 g.start, vr, vf, vc, vk] from rfl]
 simp (disch := try exact dz) only [↓bxD, bA, simprocAttr]
 generalize hM1 : M.push _ = M1
 have hb0 : M1.get M.n = some (.cs false 7 (ofL [MV.i IntKind.i64 g.names, MV.i IntKind.i64 g.kinds, MV.i IntKind.i64 g.start, vr, vf, vc, vk] 0)) := by rw [← hM1]; exact push_new _
 have hx1 : Ext M M1 := by rw [← hM1]; exact .push M _
 have hn1 : M1.n = M.n + 1 := by rw [← hM1]; rfl
 have hl1 := hx1.lo
 clear hM1
 have h1 := h.ext hx1
 simp (disch := try exact dz) only [↓bxD, bA, simprocAttr, hG]
 refine bindP_call (wholeError_any h1 (by omega)) ?_
 rintro m M2 ⟨rfl, hx2⟩
 simp (disch := try exact dz) only [↓bxD, bA, simprocAttr]
 have hn2 := hx2.n
 have hb2 := (hx2.old _ (by omega)).trans hb0
 cases hb : headE g with
 | some e =>
  have e0' : e ≠ 0 := by
   unfold headE at hb
   split at hb
   ·cases hb; decide
   ·split at hb
    ·cases hb; decide
    ·split at hb
     ·cases hb; decide
     ·cases hb
  simp (disch := try exact dz) only [simprocAttr, numE]
  refine condP_split (fun _ => ?_) (fun hc => (hc e0').elim)
  simp (disch := try exact dz) only [↓bxD, bA, simprocAttr]
  have e : formP g = (-1, e) := by unfold formP; rw [hb]
  rw [e]
  exact ⟨rfl, hx1.trans hx2⟩
 | none =>
  simp (disch := try exact dz) only [numE]
  refine condP_split (fun hc => (hc rfl).elim) (fun _ => ?_)
  simp (disch := try exact dz) only [↓bxD, bA, simprocAttr]
  show Wp fns K30_8 _ _ _
  exact pform_rules ⟨h1.ext hx2, hx1.trans hx2, hlo, by omega, hb2, by simp only [bA, reduceCtorEq]⟩ hb
structure ISt (M0 M : MH) (g : Gr) (vr vf vc vk : MV) (es : List (List MV)) (id : Nat) (l : List Int) (f : Fr) : Prop where
 gr : GrAt M0 vr vf vc vk es g
 ok : GrOk g
 ext : Ext M0 M
 lo0 : M0.lo ≤ M0.n
 b0 : M.get M0.n = some (.cs false 7 (ofL (gcs g vr vf vc vk) 0))
 id1 : M0.n < id
 id2 : id < M.n
 row : IntsAt M id l
 inn : ShIn g l
 q1 : X.ev f (.t q1) = .p M0.n 0
 q3 : X.ev f (.t q3) = .sl id 0 l.length 0
theorem shRnd_take {rs : List (Int × List Int × Int)} {l : List Int} {i : Nat} {r : Int × List Int × Int} (h : rs[i]? = some r) : shRnd (rs.take (i + 1)) l = shStep (shRnd (rs.take i) l) r := by
 unfold shRnd
 rw [List.take_add_one, h, List.foldl_append]
 rfl
theorem short_round {M0 M : MH} {g : Gr} {vr vf vc vk : MV} {es : List (List MV)} {id : Nat} {l0 : List Int} {f : Fr} (h : ISt M0 M g vr vf vc vk es id l0 f) (Q : Post)
  (hn : ∀ f' M' l' more, ISt M0 M' g vr vf vc vk es id l' f' → X.ev f' (.t q4) = .b more → l' = shRnd g.rules l0 → ((more = true ∧ shMu l' < shMu l0) ∨ (more = false ∧ l' = l0 ∧ ShStill g.rules l0)) → Q .norm f' M') : Wp fns K49_3 f M Q := by
 have hq1 := h.q1
 have hq3 := h.q3
 have hbox := h.b0
 obtain ⟨hr1, hr2⟩ := h.gr.rules.row.sl
 rw [h.gr.rules.len] at hr2
 unfold gcs at hbox
 simp only [q1, q3] at hq1 hq3
 unfold K49_3
 simp (disch := try exact dzq) only [↓bxD, bA, simprocAttr, hq1, hbox, hr2]
 refine Wp_inv (σ := Nat × List Int × Bool) (fun s f1 M1 => ISt M0 M1 g vr vf vc vk es id s.2.1 f1 ∧ s.1 ≤ g.rules.length ∧ X.ev f1 (.t q14) = vr ∧ X.ev f1 (.t q15) = .i .i64 (g.rules.length : Int) ∧ X.ev f1 (.t q16) = .i .i64 (s.1 : Int) ∧ X.ev f1 (.t q4) = .b s.2.2 ∧ s.2.1 = shRnd (g.rules.take s.1) l0 ∧ ((s.2.2 = true ∧ shMu s.2.1 < shMu l0) ∨ (s.2.2 = false ∧ s.2.1 = l0 ∧ ShStill (g.rules.take s.1) l0))) (fun s => g.rules.length - s.1) ?_ (0, l0, false) ?_
 ·rintro ⟨i, l, more⟩ f1 M1 ⟨h, hi, h14, h15, h16, h4, hl, hc⟩
  simp only at h hi h14 h15 h16 h4 hl hc
  clear hq1 hq3 hbox
  have hq1 := h.q1
  have hq3 := h.q3
  have hbox := h.b0
  have hlo := h.lo0
  have hn0 := h.ext.n
  have hl0 := h.ext.lo
  have hid1 := h.id1
  have hid2 := h.id2
  unfold gcs at hbox
  have hrl := h.ok.rl
  simp only [q1, q3, q4, q14, q15, q16] at hq1 hq3 h4 h14 h15 h16
  unfold L49_2
  by_cases hi' : i < g.rules.length
  ·have d1 : decide ((i : Int) < (g.rules.length : Int)) = true := decide_eq_true (by omega)
   obtain ⟨r, hr⟩ : ∃ r, g.rules[i]? = some r := ⟨_, List.getElem?_eq_getElem hi'⟩
   have hrt := shRnd_take (l := l0) hr
   rw [← hl] at hrt
   obtain ⟨a0, ar, a2⟩ := r
   have hmem := List.mem_of_getElem? hr
   obtain ⟨ur, hu1, hu2⟩ := h.gr.rules.get hr
   have hrow := h.gr.rules.row.ext h.ext
   obtain ⟨ro3, s3, t3, hg3, hid3, hat3⟩ := hrow.read hu1
   have hN : Ev.getN t3 3 (soff vr + i * 3) = some [.i .i64 a0, ur, .i .i64 a2] := hat3.getN
   obtain ⟨hu3, hu4⟩ := hu2.sl
   have hu6 := isSl_one hu3
   have hst : stOk 3 (.ag [.i .i64 a0, ur, .i .i64 a2]) = true := by simp only [stOk, cells_ag, isU_ag, all_cons, all_nil, one_i, hu6]; rfl
   obtain ⟨ha0, ha1⟩ := h.ok.left _ hmem
   simp only at ha0 ha1
   obtain ⟨an, rfl⟩ : ∃ n : Nat, a0 = n := ⟨a0.toNat, by omega⟩
   have hll := h.inn.len
   have han : an < l.length := by omega
   simp (disch := try exact dzq) only [↓bxD, bA, simprocAttr, h15, h16, d1]
   show Wp fns K49_1 _ _ _
   unfold K49_1
   simp (disch := try exact dzq) only [↓bxD, bA, simprocAttr, hq3, h14, h16, hg3, hN]
   generalize hM2 : (M1.push _).set M1.n _ = M2
   have hx2 : Ext M1 M2 := by rw [← hM2]; exact (Ext.push M1 _).set _ (Nat.le_refl _)
   have h9 : M2.get M1.n = some (.cs false 3 (setN [.i .i64 (an : Int), ur, .i .i64 a2] 0 (ofL [.i .i64 0, .nils, .i .i64 0] 0))) := by rw [← hM2, set_same]
   have hn3 : M2.n = M1.n + 1 := by rw [← hM2]; rfl
   clear hM2
   have hC3 : At (setN [MV.i .i64 (an : Int), ur, .i .i64 a2] 0 (ofL [.i .i64 0, .nils, .i .i64 0] 0)) 0 [.i .i64 (an : Int), ur, .i .i64 a2] := at_setN _ _ _
   have c0 : cget (setN [MV.i .i64 (an : Int), ur, .i .i64 a2] 0 (ofL [.i .i64 0, .nils, .i .i64 0] 0)) 0 = some (.i .i64 (an : Int)) := hC3 0 _ rfl
   have c1 : cget (setN [MV.i .i64 (an : Int), ur, .i .i64 a2] 0 (ofL [.i .i64 0, .nils, .i .i64 0] 0)) 1 = some ur := hC3 1 _ rfl
   have hl2 := hx2.lo
   have hrow2 : IntsAt M2 id l := h.row.same (hx2.old _ hid2)
   have hsy := h.ok.sym _ hmem
   have hle := h.ok.len _ hmem
   simp only at hsy hle
   have hb2 : M2.get M0.n = some (.cs false 7 (ofL (gcs g vr vf vc vk) 0)) := (hx2.old _ (by omega)).trans h.b0
   refine bindP_call (row_any (hrow2.row (by omega)) (hu2.ext (h.ext.trans hx2)) h.inn.lo (fun s hs s0 => by have := symB_lt (hsy s hs) s0; omega) hle) ?_
   rintro m M3 ⟨rfl, rfl⟩
   obtain ⟨t, ht1, ht2, ht3, ht4⟩ := hrow2.read
   obtain ⟨z, hz⟩ : ∃ z, l[an]? = some z := ⟨_, List.getElem?_eq_getElem han⟩
   have hR := ht2 _ _ hz
   have hH := ht3 an han
   have hzb := h.inn.lo z (List.mem_of_getElem? hz)
   have hgd : l.getD an (-1) = z := by rw [List.getD_eq_getElem?_getD, hz]; rfl
   have hrb := @shRow_le l ar
   have hcd : shCond l ((an : Int), ar, a2) = (decide (0 ≤ shRow l ar) && (decide (z < 0) || decide (shRow l ar < z))) := by unfold shCond; simp only [Int.toNat_natCast, hgd]
   have stay : shCond l ((an : Int), ar, a2) = false → ISt M0 M3 g vr vf vc vk es id l f1 ∧ l = shRnd (g.rules.take (i + 1)) l0 ∧ ((more = true ∧ shMu l < shMu l0) ∨ (more = false ∧ l = l0 ∧ ShStill (g.rules.take (i + 1)) l0)) := fun e => by
    refine ⟨⟨h.gr, h.ok, h.ext.trans hx2, h.lo0, hb2, h.id1, by omega, hrow2, h.inn, h.q1, h.q3⟩, ?_, ?_⟩
    ·rw [hrt]; unfold shStep; rw [e]; rfl
    ·rcases hc with hc | ⟨hc1, hc2, hc3⟩
     ·exact .inl hc
     ·refine .inr ⟨hc1, hc2, fun r hr' => ?_⟩
      rw [List.take_add_one, hr] at hr'
      rcases List.mem_append.1 hr' with h1 | h1
      ·exact hc3 r h1
      ·simp only [Option.toList_some, List.mem_singleton] at h1
       subst h1
       rw [← hc2]; exact e
   by_cases e1 : shRow l ar = -1
   ·have de : decide (shRow l ar ≠ Int.negSucc 0) = false := decide_eq_false (fun h => h e1)
    have hcf : shCond l ((an : Int), ar, a2) = false := by rw [hcd, decide_eq_false (by omega)]; rfl
    obtain ⟨s1, s2, s3⟩ := stay hcf
    simp (disch := try exact dzq) only [↓bxD, bA, reduceCtorEq, de]
    show Wp fns K49_0 _ _ _
    unfold K49_0
    simp (disch := try exact dzq) only [↓bxD, bA, simprocAttr, h4, h14, h15, h16]
    exact ⟨(i + 1, l, more), by simp only; omega, ⟨s1.gr, s1.ok, s1.ext, s1.lo0, s1.b0, s1.id1, s1.id2, s1.row, s1.inn, by simp only [bA, reduceCtorEq, hq1], by simp only [bA, reduceCtorEq, hq3]⟩, by simp only; omega, rfl, rfl, s2, s3⟩
   ·have de : decide (shRow l ar ≠ Int.negSucc 0) = true := decide_eq_true e1
    have turn : shCond l ((an : Int), ar, a2) = true → Ext M0 (M3.set id (some (.cs false 1 (setN (MV.i .i64 (shRow l ar)).cells (an * 1) t)))) ∧ (M3.set id (some (.cs false 1 (setN (MV.i .i64 (shRow l ar)).cells (an * 1) t)))).get M0.n = some (.cs false 7 (ofL (gcs g vr vf vc vk) 0)) ∧ IntsAt (M3.set id (some (.cs false 1 (setN (MV.i .i64 (shRow l ar)).cells (an * 1) t)))) id (l.set an (shRow l ar)) ∧ ShIn g (l.set an (shRow l ar)) ∧ l.set an (shRow l ar) = shRnd (g.rules.take (i + 1)) l0 ∧ shMu (l.set an (shRow l ar)) < shMu l0 := fun e => by
     have hs := h.inn.step h.ok hmem
     unfold shStep at hs hrt
     rw [e] at hs hrt
     simp only [if_true, Int.toNat_natCast] at hs hrt
     have hmu := shMu_step hll h.ok hmem e
     simp only [Int.toNat_natCast] at hmu
     refine ⟨(h.ext.trans hx2).set _ (by omega), ?_, ⟨_, set_same _ _, ht4 an _ han⟩, hs, hrt.symm, ?_⟩
     ·rw [set_ne (by omega)]; exact hb2
     ·rcases hc with ⟨_, hc⟩ | ⟨_, rfl, _⟩
      ·exact Nat.lt_trans hmu hc
      ·exact hmu
    by_cases e2 : z = -1
    ·have hcf : shCond l ((an : Int), ar, a2) = true := by rw [hcd, decide_eq_true (show 0 ≤ shRow l ar by omega), decide_eq_true (show z < 0 by omega)]; rfl
     have dz : decide (z = Int.negSucc 0) = true := decide_eq_true e2
     simp (disch := try exact dzq) only [↓bxD, bA, reduceCtorEq, hq3, h9, c0, ix_slc, ht1, hR, de, dz]
     show Wp fns K49_0 _ _ _
     unfold K49_0
     simp (disch := try exact dzq) only [↓bxD, bA, simprocAttr, h14, h15, h16]
     obtain ⟨s1, s2, s3, s4, s5, s6⟩ := turn hcf
     exact ⟨(i + 1, _, true), by simp only; omega, ⟨h.gr, h.ok, s1, h.lo0, s2, h.id1, by rw [set_n]; omega, s3, s4, by simp only [bA, reduceCtorEq, hq1], by simp (disch := try exact dzq) only [bA, simprocAttr, hq3, List.length_set]⟩, by simp only; omega, rfl, rfl, s5, .inl ⟨rfl, s6⟩⟩
    ·have dz : decide (z = Int.negSucc 0) = false := decide_eq_false e2
     by_cases e3 : shRow l ar < z
     ·have hcf : shCond l ((an : Int), ar, a2) = true := by rw [hcd, decide_eq_true (show 0 ≤ shRow l ar by omega), decide_eq_true e3, Bool.or_true]; rfl
      have d3 : decide (shRow l ar < z) = true := decide_eq_true e3
      simp (maxSteps := 4000000) (disch := first | omega | assumption | (simp only [bxS, bxV, stOk, Nat.reduceBEq, Nat.reduceEqDiff, Nat.reduceAdd]; done) | (simp only [bxU]; omega) | ((try apply has_setN); apply has_ofL; simp only [bxL]; omega)) only [↓bxD, bxP, bxQ, reduceCtorEq, hq3, h9, c0, ix_slc, ht1, hR, de, dz, d3]
      show Wp fns K49_0 _ _ _
      unfold K49_0
      simp (disch := try exact dzq) only [↓bxD, bA, simprocAttr, h14, h15, h16]
      obtain ⟨s1, s2, s3, s4, s5, s6⟩ := turn hcf
      exact ⟨(i + 1, _, true), by simp only; omega, ⟨h.gr, h.ok, s1, h.lo0, s2, h.id1, by rw [set_n]; omega, s3, s4, by simp only [bA, reduceCtorEq, hq1], by simp (disch := try exact dzq) only [bA, simprocAttr, hq3, List.length_set]⟩, by simp only; omega, rfl, rfl, s5, .inl ⟨rfl, s6⟩⟩
     ·have hcf : shCond l ((an : Int), ar, a2) = false := by rw [hcd, decide_eq_false (show ¬ z < 0 by omega), decide_eq_false e3]; simp
      have d3 : decide (shRow l ar < z) = false := decide_eq_false e3
      obtain ⟨s1, s2, s3⟩ := stay hcf
      simp (disch := try exact dzq) only [↓bxD, bA, reduceCtorEq, hq3, h9, c0, ix_slc, ht1, hR, de, dz, d3]
      show Wp fns K49_0 _ _ _
      unfold K49_0
      simp (disch := try exact dzq) only [↓bxD, bA, simprocAttr, h4, h14, h15, h16]
      exact ⟨(i + 1, l, more), by simp only; omega, ⟨s1.gr, s1.ok, s1.ext, s1.lo0, s1.b0, s1.id1, s1.id2, s1.row, s1.inn, by simp only [bA, reduceCtorEq, hq1], by simp only [bA, reduceCtorEq, hq3]⟩, by simp only; omega, rfl, rfl, s2, s3⟩
  ·have d1 : decide ((i : Int) < (g.rules.length : Int)) = false := decide_eq_false (by omega)
   have hi2 : i = g.rules.length := by omega
   subst hi2
   rw [List.take_length] at hc hl
   simp (disch := try exact dzq) only [↓bxD, bA, simprocAttr, h15, h16, d1]
   exact hn _ _ l more ⟨h.gr, h.ok, h.ext, h.lo0, h.b0, h.id1, h.id2, h.row, h.inn, by simp only [bA, reduceCtorEq, hq1], by simp only [bA, reduceCtorEq, hq3]⟩ (by simp only [bA, reduceCtorEq, h4]) hl hc
 ·exact ⟨⟨h.gr, h.ok, h.ext, h.lo0, h.b0, h.id1, h.id2, h.row, h.inn, by simp only [bA, reduceCtorEq, hq1], by simp only [bA, reduceCtorEq, hq3]⟩, Nat.zero_le _, by simp only [bA, reduceCtorEq], by simp only [bA, reduceCtorEq], by simp only [bA, reduceCtorEq] <;> rfl, by simp only [bA, reduceCtorEq], rfl, .inr ⟨rfl, rfl, fun r hr => by simp at hr⟩⟩
theorem push2b {M M2 : MH} {a b : MO} (h : (M.push a).push b = M2) : Ext M M2 ∧ M2.n = M.n + 2 ∧ M2.get M.n = some a ∧ M2.get (M.n + 1) = some b := by
 subst h
 refine ⟨(Ext.push M a).trans (.push _ b), rfl, ?_, push_new (M := M.push a) b⟩
 rw [push_old (by show M.n < M.n + 1; omega)]; exact push_new _
theorem shortest_any {M : MH} {g : Gr} {vr vf vc vk : MV} {es : List (List MV)} (h : GrAt M vr vf vc vk es g) (hok : GrOk g) (hlo : M.lo ≤ M.n) : Cp fns 49 [.ag (gcs g vr vf vc vk)] M fun m M' => Ext M M' ∧ ∃ l id, ShVec g l ∧ m = .sl id 0 l.length 0 ∧ IntsAt M' id l ∧ M.n ≤ id ∧ id < M'.n := by
 refine Cp_call (fn := F49) (by kernel_rfl) (Nat.le_of_ble_eq_true rfl) ?_
 show Wp fns B49 (T.set q0 (some (.ag (gcs g vr vf vc vk))) T.lf) M _
 unfold B49
 rw [show gcs g vr vf vc vk = [MV.i IntKind.i64 g.names, MV.i IntKind.i64 g.kinds, MV.i IntKind.i64 g.start, vr, vf, vc, vk] from rfl]
 obtain ⟨nn, hnn⟩ : ∃ n : Nat, g.names = n := ⟨g.names.toNat, by have := hok.n1; omega⟩
 have hn1 := hok.n1
 have hn40 := hok.n2
 have hfill : fillM [(0, 1, MV.i .i64 (Int.negSucc 0))] [MV.i .i64 0] = some [MV.i .i64 (Int.negSucc 0)] := fill_one rfl rfl
 simp (disch := try exact dzq) only [↓bxD, bA, reduceCtorEq, hnn, hfill]
 have hp := row_one (M := M.push (.cs false 7 (ofL [MV.i .i64 (nn : Int), .i .i64 g.kinds, .i .i64 g.start, vr, vf, vc, vk] 0))) (sz := 1) (e := [MV.i .i64 (Int.negSucc 0)]) rfl
 generalize hM2 : (M.push _).push _ = M2 at hp ⊢
 obtain ⟨x2, n2, g2, _⟩ := push2b hM2
 have l2 := x2.lo
 clear hM2
 have hp : IntRow M2 (.sl (M.n + 1) 0 1 0) [-1] := hp
 refine bindP_call (repeat_any (z := -1) hp ⟨by omega, by omega⟩ (by omega)) ?_
 rintro m M3 ⟨x3, rfl, hi3, n3⟩
 have g3 := (x3.old M.n (by omega)).trans g2
 simp (disch := try exact dzq) only [↓bxD, bA, reduceCtorEq, hnn]
 have hin : ShIn g (shIt g 0) := ShIn.it hok 0
 have hnn' : g.names.toNat = nn := by omega
 refine Wp_inv (σ := List Int × Bool) (fun s f1 M1 => ISt M M1 g vr vf vc vk es M2.n s.1 f1 ∧ X.ev f1 (.t q4) = .b s.2 ∧ (∃ n, s.1 = shIt g n) ∧ (s.2 = false → ShStill g.rules s.1)) (fun s => 2 * shMu s.1 + (if s.2 = true then 1 else 0)) ?_ (shIt g 0, true) ?_
 ·rintro ⟨l, more⟩ f1 M4 ⟨h4, ht, hs, hc⟩
  simp only at h4 ht hs hc
  have hq1 := h4.q1
  have hq3 := h4.q3
  simp only [q1, q3, q4] at hq1 hq3 ht
  unfold L49_4
  cases more with
  | true =>
   simp (disch := try exact dzq) only [↓bxD, bA, ht]
   show Wp fns K49_3 _ _ _
   refine short_round ⟨h4.gr, h4.ok, h4.ext, h4.lo0, h4.b0, h4.id1, h4.id2, h4.row, h4.inn, by simp only [bxP, bxQ, reduceCtorEq, hq1], by simp only [bxP, bxQ, reduceCtorEq, hq3]⟩ _ ?_
   intro f' M' l' more' h' h4' hs' hcase
   refine ⟨(l', more'), ?_, h', h4', ?_, fun e => ?_⟩
   ·rcases hcase with ⟨rfl, hlt⟩ | ⟨rfl, rfl, _⟩
    ·simp only [if_true]; omega
    ·simp
   ·obtain ⟨n, rfl⟩ := hs
    exact ⟨n + 1, hs'⟩
   ·rcases hcase with ⟨rfl, _⟩ | ⟨_, rfl, hc'⟩
    ·cases e
    ·exact hc'
  | false =>
   simp (disch := try exact dzq) only [↓bxD, bA, ht]
   show Wp fns K49_5 _ _ _
   unfold K49_5
   simp (disch := try exact dzq) only [↓bxD, bA, reduceCtorEq, hq3]
   exact ⟨h4.ext, l, M2.n, ⟨hs, hc rfl⟩, rfl, h4.row, by omega, h4.id2⟩
 ·refine ⟨⟨h, hok, x2.trans x3, hlo, by rw [g3]; unfold gcs; rw [hnn], by omega, by omega, ?_, hin, by simp only [bxP, bxQ, reduceCtorEq], ?_⟩, by simp only [bxP, bxQ, reduceCtorEq], ⟨0, rfl⟩, fun e => by cases e⟩
  ·show IntsAt M3 M2.n (List.replicate g.names.toNat (-1))
   rw [hnn']; exact hi3
  ·simp (disch := try exact dzq) only [bA, reduceCtorEq]
   show MV.sl M2.n 0 nn 0 = .sl M2.n 0 (List.replicate g.names.toNat (-1)).length 0
   rw [List.length_replicate, hnn']
theorem isForm_any {M : MH} {g : Gr} {vr vf vc vk : MV} {es : List (List MV)} (h : GrAt M vr vf vc vk es g) (hlo : M.lo ≤ M.n) : Cp fns 15 [.ag (gcs g vr vf vc vk)] M fun m M' => m = .b (decide ((formP g).2 = 0)) ∧ Ext M M' := by
 have hG : ∀ l, l = gcs g vr vf vc vk → Ev.getN (ofL l 0) 7 0 = some (gcs g vr vf vc vk) := fun l e => by subst e; exact (at_ofL (gcs g vr vf vc vk)).getN
 have hG := hG [MV.i IntKind.i64 g.names, MV.i IntKind.i64 g.kinds, MV.i IntKind.i64 g.start, vr, vf, vc, vk] rfl
 refine Cp_call (fn := F15) (by kernel_rfl) (Nat.le_of_ble_eq_true rfl) ?_
 show Wp fns B15 (T.set q0 (some (.ag (gcs g vr vf vc vk))) T.lf) M _
 unfold B15
 rw [show gcs g vr vf vc vk = [MV.i IntKind.i64 g.names, MV.i IntKind.i64 g.kinds, MV.i IntKind.i64 g.start, vr, vf, vc, vk] from rfl]
 simp (disch := try exact dzq) only [↓bxD, bA, simprocAttr, hG]
 refine bindP_call (prog_form (h.ext (.push M _)) (by show M.lo ≤ M.n + 1; omega)) ?_
 rintro m M2 ⟨rfl, hx⟩
 simp (disch := try exact dzq) only [↓bxD, bA, simprocAttr]
 exact (Ext.push M _).trans hx
def ShPost (g : Gr) (M : MH) (m : MV) (M' : MH) : Prop := Ext M M' ∧ (((formP g).2 ≠ 0 ∧ m = .nils) ∨ ((formP g).2 = 0 ∧ ∃ l, ShVec g l ∧ IntRow M' m l))
def PrPost (g : Gr) (M : MH) (m : MV) (M' : MH) : Prop := Ext M M' ∧ (((formP g).2 ≠ 0 ∧ m = .nils) ∨ ((formP g).2 = 0 ∧ ∃ l, ShVec g l ∧ BRow M' m (l.map fun z => decide (0 ≤ z))))
theorem pprod_any {M : MH} {g : Gr} {vr vf vc vk : MV} {es : List (List MV)} (h : GrAt M vr vf vc vk es g) (hlo : M.lo ≤ M.n) : Cp fns 36 [.ag (gcs g vr vf vc vk)] M (PrPost g M) := by
 have hG : ∀ l, l = gcs g vr vf vc vk → Ev.getN (ofL l 0) 7 0 = some (gcs g vr vf vc vk) := fun l e => by subst e; exact (at_ofL (gcs g vr vf vc vk)).getN
 have hG := hG [MV.i IntKind.i64 g.names, MV.i IntKind.i64 g.kinds, MV.i IntKind.i64 g.start, vr, vf, vc, vk] rfl
 refine Cp_call (fn := F36) (by kernel_rfl) (Nat.le_of_ble_eq_true rfl) ?_
 show Wp fns B36 (T.set q0 (some (.ag (gcs g vr vf vc vk))) T.lf) M _
 unfold B36
 rw [show gcs g vr vf vc vk = [MV.i IntKind.i64 g.names, MV.i IntKind.i64 g.kinds, MV.i IntKind.i64 g.start, vr, vf, vc, vk] from rfl]
 generalize hM1 : M.push (.cs false 7 (ofL [MV.i IntKind.i64 g.names, MV.i IntKind.i64 g.kinds, MV.i IntKind.i64 g.start, vr, vf, vc, vk] 0)) = M1
 have g0 : M1.get M.n = some (.cs false 7 (ofL [MV.i IntKind.i64 g.names, MV.i IntKind.i64 g.kinds, MV.i IntKind.i64 g.start, vr, vf, vc, vk] 0)) := by rw [← hM1]; exact push_new _
 have x1 : Ext M M1 := by rw [← hM1]; exact .push M _
 have n1 : M1.n = M.n + 1 := by rw [← hM1]; rfl
 have l1 := x1.lo
 simp (disch := try exact dzq) only [↓bxD, bA, simprocAttr, hG, hM1, g0]
 refine bindP_call (isForm_any (h.ext x1) (by omega)) ?_
 rintro m M2 ⟨rfl, x2⟩
 have n2 := x2.n
 have l2 := x2.lo
 have g2 := (x2.old _ (by omega)).trans g0
 by_cases hz : (formP g).2 = 0
 ·have dz : decide ((formP g).2 = 0) = true := decide_eq_true hz
  have hok := form_ok hz
  obtain ⟨nn, hnn⟩ : ∃ n : Nat, g.names = n := ⟨g.names.toNat, by have := hok.n1; omega⟩
  have hn1 := hok.n1
  have hn40 := hok.n2
  have hcs : gcs g vr vf vc vk = [MV.i .i64 (nn : Int), .i .i64 g.kinds, .i .i64 g.start, vr, vf, vc, vk] := by unfold gcs; rw [hnn]
  have g2' := g2
  rw [hnn] at g2'
  have hG' := hG
  rw [hnn, hcs] at hG'
  simp (disch := try exact dzq) only [↓bxD, bA, simprocAttr, dz]
  show Wp fns K36_4 _ _ _
  unfold K36_4
  simp (disch := try exact dzq) only [↓bxD, bA, simprocAttr, hG', g2', ev_mks, mks_ok]
  have hbn := BoolsAt.new (M := M2) nn
  have x3 : Ext M2 (M2.push (.cs false 1 (ofL (zrow [.b false] nn) 0))) := .push M2 _
  have n3 : (M2.push (.cs false 1 (ofL (zrow [.b false] nn) 0))).n = M2.n + 1 := rfl
  generalize M2.push (.cs false 1 (ofL (zrow [.b false] nn) 0)) = M3 at hbn x3 n3
  have l3 := x3.lo
  rw [← hcs]
  refine bindP_call (shortest_any (((h.ext x1).ext x2).ext x3) hok (by omega)) ?_
  rintro m M4 ⟨x4, l, id, h1, rfl, h2, h3, h4⟩
  have hin := h1.inn hok
  have hll := hin.len
  have l4 := x4.lo
  simp (disch := try exact dzq) only [↓bxD, bA, simprocAttr, len_slc]
  refine Wp_inv (σ := Nat × List Bool) (fun s f M' => Ext M M' ∧ M'.n = M4.n ∧ s.1 ≤ l.length ∧ X.ev f (.t q3) = .sl M2.n 0 nn 0 ∧ X.ev f (.t q13) = .sl id 0 l.length 0 ∧ X.ev f (.t q14) = .i .i64 (l.length : Int) ∧ X.ev f (.t q15) = .i .i64 (s.1 : Int) ∧ IntsAt M' id l ∧ BoolsAt M' M2.n s.2 ∧ s.2.length = nn ∧ ∀ j z, j < s.1 → l[j]? = some z → s.2[j]? = some (decide (0 ≤ z))) (fun s => l.length - s.1) ?_ (0, List.replicate nn false) ?_
  ·rintro ⟨i, L⟩ f M' ⟨hx, hn', hi, h3', h13, h14, h15, hI, hB, hL, hv⟩
   simp only at hi h3' h13 h14 h15 hB hL hv
   simp only [q3, q13, q14, q15] at h3' h13 h14 h15
   have hl' := hx.lo
   unfold L36_2
   by_cases hi' : i < l.length
   ·have d1 : decide ((i : Int) < (l.length : Int)) = true := decide_eq_true (by omega)
    obtain ⟨z, hz⟩ : ∃ z, l[i]? = some z := ⟨_, List.getElem?_eq_getElem hi'⟩
    have hzb := hin.lo z (List.mem_of_getElem? hz)
    obtain ⟨t, ht1, ht2, ht3, ht4⟩ := hI.read
    obtain ⟨tb, hb1, hb2, hb3, hb4⟩ := hB.read
    have hR := ht2 _ _ hz
    have hH := hb3 i (by omega)
    have dz : decide (z ≠ Int.negSucc 0) = decide (0 ≤ z) := by
     by_cases e : 0 ≤ z
     ·rw [decide_eq_true e]; exact decide_eq_true (fun e' => by omega)
     ·rw [decide_eq_false e]; exact decide_eq_false (fun e' => e' (by omega))
    simp (disch := try exact dzq) only [↓bxD, bA, h14, h15, d1]
    show Wp fns K36_1 _ _ _
    unfold K36_1
    simp (disch := try exact dzq) only [↓bxD, bA, reduceCtorEq, h3', h13, h15, ix_slc, ht1, hR, hb1, dz]
    show Wp fns K36_0 _ _ _
    unfold K36_0
    simp (maxSteps := 4000000) (disch := first | omega | assumption | (simp only [bxS, bxV, stOk, Nat.reduceBEq, Nat.reduceEqDiff, Nat.reduceAdd]; done) | (simp only [bxU]; omega) | ((try apply has_setN); apply has_ofL; simp only [bxL]; omega)) only [↓bxD, bxP, bxQ, reduceCtorEq, h3', h13, h14, h15]
    refine ⟨(i + 1, L.set i (decide (0 ≤ z))), by simp only; omega, hx.set _ (by omega), hn', by simp only; omega, rfl, hI.same (set_ne (by omega)), ⟨_, set_same _ _, hb4 i _ (by omega)⟩, by rw [List.length_set]; exact hL, fun j y hj hy => ?_⟩
    simp only at hj ⊢
    rw [List.getElem?_set]
    by_cases e : i = j
    ·subst e
     rw [hz] at hy
     injection hy with hy
     subst hy
     rw [if_pos rfl, if_pos (by omega)]
    ·rw [if_neg e]
     exact hv j y (by omega) hy
   ·have d1 : decide ((i : Int) < (l.length : Int)) = false := decide_eq_false (by omega)
    simp (disch := try exact dzq) only [↓bxD, bA, simprocAttr, h14, h15, d1]
    show Wp fns K36_3 _ _ _
    unfold K36_3
    simp (disch := try exact dzq) only [↓bxD, bA, simprocAttr, h3']
    refine ⟨hx, .inr ⟨hz, l, h1, ?_⟩⟩
    have e : l.map (fun z => decide (0 ≤ z)) = L := by
     refine List.ext_getElem? fun j => ?_
     rw [List.getElem?_map]
     cases hj : l[j]? with
     | none =>
      have := List.getElem?_eq_none_iff.1 hj
      rw [List.getElem?_eq_none (by omega)]; rfl
     | some z =>
      have := (List.getElem?_eq_some_iff.1 hj).1
      rw [hv j z (by omega) hj]; rfl
    rw [e]
    have := hB.row (by omega)
    rw [hL] at this
    exact this
  ·exact ⟨((x1.trans x2).trans x3).trans x4, rfl, Nat.zero_le _, by simp only [bA, reduceCtorEq], by simp only [bA, reduceCtorEq], by simp only [bA, reduceCtorEq], by simp only [bA, reduceCtorEq] <;> rfl, h2, hbn.same (x4.old _ (by omega)), List.length_replicate, fun j z hj => by cases hj⟩
 ·have dz : decide ((formP g).2 = 0) = false := decide_eq_false hz
  simp (disch := try exact dzq) only [↓bxD, bA, simprocAttr, dz]
  exact ⟨x1.trans x2, .inl ⟨hz, rfl⟩⟩
def prs (l : List (Int × Int)) : List (List MV) := l.map fun x => [.i .i64 x.1, .i .i64 x.2]
theorem prs_len (l : List (Int × Int)) : (prs l).length = l.length := by unfold prs; rw [List.length_map]
theorem prs_at {l : List (Int × Int)} {i : Nat} {x : Int × Int} (h : l[i]? = some x) : (prs l)[i]? = some [.i .i64 x.1, .i .i64 x.2] := by unfold prs; rw [List.getElem?_map, h]; rfl
def its (g : Gr) (l : List (Int × Int)) : List Nat := l.filterMap fun x => itemO g x.1 x.2
theorem its_is {g : Gr} (hg : GrOk g) {l : List (Int × Int)} {n : Nat} (h : n ∈ its g l) : IsN g n := by
 unfold its at h
 obtain ⟨x, _, hx⟩ := List.mem_filterMap.1 h
 exact (itemO_some hg hx).1
theorem its_take {g : Gr} {l : List (Int × Int)} {i : Nat} {x : Int × Int} (h : l[i]? = some x) : its g (l.take (i + 1)) = its g (l.take i) ++ (itemO g x.1 x.2).toList := by
 unfold its
 rw [List.take_add_one, h, List.filterMap_append]
 cases hx : itemO g x.1 x.2 <;> simp [hx]
theorem cls_same {g : Gr} {S S' : Nat → Prop} {W : Nat} (h : ClsN g S W) (e : ∀ n, S n ↔ S' n) : ClsN g S' W := by
 rw [show S' = S from funext fun n => propext (e n).symm]
 exact h
def CloseV (g : Gr) (l : List (Int × Int)) (L : List Nat) : Prop := ((formP g).2 ≠ 0 ∧ L = []) ∨ ((formP g).2 = 0 ∧ ∃ W, ClsN g (fun n => n ∈ its g l) W ∧ L = bitsOf W 576)
end Go.Proofs.YtpdcahaggacacaaDoor.K
