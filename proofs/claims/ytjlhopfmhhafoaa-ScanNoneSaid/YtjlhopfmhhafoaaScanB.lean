/-
  The longest that fits, in the program and in the document: one answer. Conditions: the automaton reads as rows and numbers.
-/
import Derived.Test.YtjlhopfmhhafoaaScanA
import Derived.Test.YtjlhopfmhhafoaaReg3
import Derived.StillTailTactics
set_option linter.unusedSimpArgs false
namespace Go.Proofs.Ytjlhopfmhhafoaa.Kit
open Go Go.RowKit
/-- v[lo:hi], the address behind one name. -/
theorem Bs.cut {w : World} {A : Option Addr} {n c : Nat} {l : List UInt8} (h : Bs w (.slice A n c) l) {lo hi m : Nat} (h1 : lo ≤ hi) (h2 : hi ≤ n) (h3 : hi ≤ m) (h4 : m ≤ c) :
    Bs w (.slice (if m = lo then A else A.map (·.add lo)) (hi - lo) (m - lo)) ((l.take hi).drop lo) := by
  obtain ⟨A', c', he, k1, k2, k3⟩ := h
  cases he
  have hlen : ((l.take hi).drop lo).length = hi - lo := by simp; omega
  refine ⟨_, m - lo, by rw [hlen], by rw [hlen]; omega, by omega, fun j u hj => ?_⟩
  have hj' : j < hi - lo := by rw [← hlen]; exact (List.getElem?_eq_some_iff.1 hj).1
  rw [List.getElem?_drop, List.getElem?_take] at hj
  rw [if_pos (by omega)] at hj
  obtain ⟨ad, e, hc⟩ := k3 (lo + j) u hj
  subst e
  rw [if_neg (by omega)]
  refine ⟨ad.add lo, rfl, ?_⟩
  rw [Addr.add_add]
  exact hc

/-- min and max of two numbers. -/
theorem wpList_min {P : Program} {w : World} {ops : Array Oper} {rest : List Oper} {o : Oper} {a : Act} {Q : Exit → Act → World → Prop} (hgd : o.guard = none) (s x : Operand) (t : Array TypeId) (p q : Int)
    (ho : o.op = .call { callee := .builtin .min, args := #[s, x], argTypes := t }) (hs : a.eval s = .int .i64 p) (hx : a.eval x = .int .i64 q) (h : wpList P ops Q rest (a.put o.dst (.int .i64 (min p q))) w) : wpList P ops Q (o :: rest) a w := by
  refine wpList_plain hgd fun K hK => ?_
  unfold Oper.wp execOp
  simp only [ho, resolve, invoke, builtin, Sem.run_bind, Sem.run_pure, Result.andThen_ok, List.map_toArray, List.map_cons, List.map_nil, hs, hx]
  simp only [Builtin.min_, Builtin.max_]
  simp [go_sem]
  by_cases hq : q < p
  · simp [Builtin.min2, Builtin.max2, hq, go_sem]
    rw [show min p q = q from by omega] at h
    exact hK _ _ h
  · simp [Builtin.min2, Builtin.max2, hq, go_sem]
    rw [show min p q = p from by omega] at h
    exact hK _ _ h
theorem wpList_max {P : Program} {w : World} {ops : Array Oper} {rest : List Oper} {o : Oper} {a : Act} {Q : Exit → Act → World → Prop} (hgd : o.guard = none) (s x : Operand) (t : Array TypeId) (p q : Int)
    (ho : o.op = .call { callee := .builtin .max, args := #[s, x], argTypes := t }) (hs : a.eval s = .int .i64 p) (hx : a.eval x = .int .i64 q) (h : wpList P ops Q rest (a.put o.dst (.int .i64 (max p q))) w) : wpList P ops Q (o :: rest) a w := by
  refine wpList_plain hgd fun K hK => ?_
  unfold Oper.wp execOp
  simp only [ho, resolve, invoke, builtin, Sem.run_bind, Sem.run_pure, Result.andThen_ok, List.map_toArray, List.map_cons, List.map_nil, hs, hx]
  simp only [Builtin.min_, Builtin.max_]
  simp [go_sem]
  by_cases hq : p < q
  · simp [Builtin.min2, Builtin.max2, hq, go_sem]
    rw [show max p q = q from by omega] at h
    exact hK _ _ h
  · simp [Builtin.min2, Builtin.max2, hq, go_sem]
    rw [show max p q = p from by omega] at h
    exact hK _ _ h

/-- The longest row that fits: its rule, its length, what was looked at. -/
def Dfa.scan (d : Dfa) (s : Int) (k : Nat) (r : Int) (m : Nat) : List UInt8 → Int × Nat × Nat
  | [] => (r, m, k + 1)
  | c :: l => if d.is (d.step s c.toNat) then (if d.val (d.step s c.toNat) < 0 then d.scan (d.step s c.toNat) (k + 1) r m l else d.scan (d.step s c.toNat) (k + 1) (d.val (d.step s c.toNat)) (k + 1) l) else (r, m, k + 1)
theorem Dfa.scan_no {d : Dfa} {s : Int} (h : d.is s = false) (k : Nat) (r : Int) (m : Nat) (l : List UInt8) : d.scan s k r m l = (r, m, k + 1) := by
  cases l with
  | nil => rfl
  | cons c l =>
    rw [Dfa.scan, if_neg]
    rw [Dfa.step, h]
    simp [Dfa.is]
def Dfa.scanAt (d : Dfa) (b : List UInt8) (at' : Int) : Int × Nat × Nat := d.scan 0 0 (-1) 0 (b.drop (min (max at' 0) b.length).toNat)
end Go.Proofs.Ytjlhopfmhhafoaa.Kit
namespace Go.Proofs.Ytjlhopfmhhafoaa
open Go Go.RowKit Kit
theorem drop_at {α : Type} {l : List α} {j : Nat} {x : α} (h : l[j]? = some x) : l.drop j = x :: l.drop (j + 1) := by
  obtain ⟨h1, h2⟩ := List.getElem?_eq_some_iff.1 h
  rw [← h2, List.drop_eq_getElem_cons h1]
set_option maxRecDepth 100000 in
set_option maxHeartbeats 1000000 in
theorem sstep_any (vn va : Value) (d : Dfa) (vs : List Value) (i : Int) (q : Nat) (hc : q < 256) (w : World) (h : DfaAt w vn va d vs) : Calls Try.prog 13 #[.agg #[vn, va], .int .i64 i, .int .u8 q] w fun e w' => ∃ z, e = .returned (.tuple #[.int .i64 z, .bool (d.is (d.step i q))]) ∧ (d.is (d.step i q) = true → z = d.step i q) ∧ Kept w w' := by
  have H := Lib.hid h
  obtain ⟨An, cn, rfl, hn⟩ := h.next.form
  obtain ⟨Aa, ca, rfl, ha⟩ := Ld.ints h.acc
  have hlen := h.len
  have hm1 : d.is (-1) = false := by simp [Dfa.is]
  cases hs : d.is i with
  | false =>
    have e : d.step i q = -1 := by simp [Dfa.step, hs]
    rw [e, hm1]
    have HS := Lib.hid hs
    clear h e hlen hs hn ha hm1
    go_enter Try.func13, Try.ntmps13
    go_wp2_with fail
    refine (isState_any _ _ d vs i _ (H.out.kept ((Kept.refl _).alloc _))).mono ?_
    rintro e w5 ⟨rfl, hk⟩
    rw [HS.out]
    go_wp2_with fail
    go_ret2
    exact ⟨_, rfl, (fun h => by cases h), ((Kept.refl _).alloc _).trans hk⟩
  | true =>
    obtain ⟨j, rfl, hj1, hj2⟩ := is_true hs
    obtain ⟨v, hv⟩ : ∃ v, vs[j]? = some v := ⟨_, List.getElem?_eq_getElem (by omega)⟩
    obtain ⟨r, hr⟩ : ∃ r, d.rows[j]? = some r := ⟨_, List.getElem?_eq_getElem hj1⟩
    have hL := h.row j v r hv hr
    obtain ⟨Ar, cr, rfl, hrl⟩ := Ld.ints hL
    obtain ⟨ad, rfl, hcell⟩ := h.next.at hv
    have hj3 : (j : Int) < vs.length := by omega
    have hq0 : (0 : Int) ≤ q := by omega
    have hj0 : (0 : Int) ≤ j := by omega
    by_cases hlt : q < r.length
    · obtain ⟨z, hz⟩ : ∃ z, r[q]? = some z := ⟨_, List.getElem?_eq_getElem hlt⟩
      obtain ⟨ar, rfl, hcz⟩ := hL.at (zs_get hz)
      have hlti : (q : Int) < r.length := by omega
      have e : d.step j q = z := by simp [Dfa.step, hs, hr, hz]
      rw [e]
      clear h e hr hz hv hlen hm1
      go_enter Try.func13, Try.ntmps13
      go_wp2_with fail
      refine (isState_any _ _ d vs j _ (H.out.kept ((Kept.refl _).alloc _))).mono ?_
      rintro e w5 ⟨rfl, hk⟩
      rw [hs]
      have hk5 := ((Kept.refl w).alloc _).trans hk
      have h1 := hk5.cell hcell
      have h2 := hk5.cell hcz
      have h3 := hk.blk (blk_new w _)
      have B0 := (blk_cell h3 0).trans (show _ = some (Value.slice (some ad) vs.length cn) from rfl)
      have B1 := (blk_cell h3 1).trans (show _ = some (Value.slice Aa d.acc.length ca) from rfl)
      have HK5 := Lib.hid hk5
      clear hk hcell hcz hk5 h3
      go_wp2_with fail
      refine (isState_any _ _ d vs z _ (H.out.kept HK5.out)).mono ?_
      rintro e w6 ⟨rfl, hk⟩
      have HK6 := Lib.hid (HK5.out.trans hk)
      clear hk B0 B1 h1 h2
      go_wp2_with fail
      go_ret2
      exact ⟨z, rfl, fun _ => rfl, HK6.out⟩
    · have e : d.step j q = -1 := by simp [Dfa.step, hs, hr, List.getD_eq_getElem?_getD, List.getElem?_eq_none (Nat.le_of_not_lt hlt)]
      have hlti : ¬ (q : Int) < r.length := by omega
      rw [e, hm1]
      clear h e hr hv hlen hm1
      go_enter Try.func13, Try.ntmps13
      go_wp2_with fail
      refine (isState_any _ _ d vs j _ (H.out.kept ((Kept.refl _).alloc _))).mono ?_
      rintro e w5 ⟨rfl, hk⟩
      rw [hs]
      have hk5 := ((Kept.refl w).alloc _).trans hk
      have h1 := hk5.cell hcell
      have h3 := hk.blk (blk_new w _)
      have B0 := (blk_cell h3 0).trans (show _ = some (Value.slice (some ad) vs.length cn) from rfl)
      have B1 := (blk_cell h3 1).trans (show _ = some (Value.slice Aa d.acc.length ca) from rfl)
      clear hk hcell H
      go_wp2_with fail
      go_ret2
      exact ⟨_, rfl, (fun h => by cases h), hk5⟩
set_option maxRecDepth 100000 in
set_option maxHeartbeats 2000000 in
theorem next_any (vn va : Value) (d : Dfa) (vs : List Value) (vb : Value) (b : List UInt8) (at' : Int) (w : World) (h : DfaAt w vn va d vs) (hb : Bs w vb b) (hb2 : b.length ≤ 1000) : Calls Try.prog 7 #[.agg #[vn, va], vb, .int .i64 at'] w fun e w' => e = .returned (.tuple #[.int .i64 (d.scanAt b at').1, .int .i64 (d.scanAt b at').2.1, .int .i64 (d.scanAt b at').2.2]) ∧ Kept w w' := by
  have H := Lib.hid h
  obtain ⟨An, cn, rfl, hn⟩ := h.next.form
  obtain ⟨Aa, ca, rfl, ha⟩ := Ld.ints h.acc
  obtain ⟨Ab, cb, rfl⟩ := hb.form
  have hbl := hb.len
  obtain ⟨lo, hlo⟩ : ∃ lo : Nat, min (max at' 0) b.length = (lo : Int) := ⟨(min (max at' 0) b.length).toNat, by omega⟩
  have hR0 : d.scanAt b at' = d.scan 0 0 (-1) 0 (b.drop lo) := by rw [Dfa.scanAt, hlo, Int.toNat_natCast]
  have hcut := hb.cut (lo := lo) (hi := b.length) (m := cb) (by omega) (Nat.le_refl _) (by omega) (Nat.le_refl _)
  rw [List.take_length] at hcut
  generalize hR : d.scanAt b at' = R at hR0 ⊢
  have HR0 := Lib.hid hR0.symm
  have HLO := Lib.hid hlo
  have hlo2 : (lo : Int) ≤ b.length := by omega
  have hbm := hb2
  have hbc : (b.length : Int) ≤ cb := by omega
  have HC := Lib.hid hcut
  have hll : (b.drop lo).length = b.length - lo := List.length_drop
  generalize vs.length = n at *
  generalize d.acc.length = a at *
  generalize b.drop lo = l at *
  have HLL := Lib.hid hll
  have HLB : Hid (l.length ≤ 1000) := Lib.hid (by omega)
  clear h hb hbl hb2 hn ha hR hR0 hcut hlo hll hbm
  generalize b.length = bn at *
  by_cases hcl : cb = lo
  · rw [if_pos hcl] at HC
    go_enter Try.func7, Try.ntmps7
    go_wp2_with (first | ((with_reducible refine wpList_min rfl _ _ _ _ _ rfl rfl rfl ?_); rw [HLO.out]) | (with_reducible refine wpList_max rfl _ _ _ _ _ rfl rfl rfl ?_))
    generalize Ab = A2 at HC ⊢
    generalize cb - lo = c2 at HC ⊢
    generalize bn - lo = n2 at HLL HC ⊢
    clear hcl hlo2 hbc HLO
    go_loopw [10, 11, 12, 26] (fun vr vl va vi wr => ∃ (j m : Nat) (r s : Int), vi = .int .i64 j ∧ va = .int .i64 s ∧ vl = .int .i64 m ∧ vr = .int .i64 r ∧ j ≤ l.length ∧ d.scan s j r m (l.drop j) = R ∧ Kept (w.alloc (.cells #[.slice An n cn, .slice Aa a ca] 25)) wr) (fun _ _ _ vi _ => l.length - (intOf vi).toNat)
    case atStart => exact ⟨0, 0, -1, 0, rfl, rfl, rfl, rfl, Nat.zero_le _, HR0.out, Kept.refl _⟩
    case round =>
      obtain ⟨j, m, r, s, rfl, rfl, rfl, rfl, hj, hr, hkr⟩ := hrel
      have HR := Lib.hid hr
      have HK := Lib.hid hkr
      have h3 := hkr.blk (blk_new w _)
      have B0 := (blk_cell h3 0).trans (show _ = some (Value.slice An n cn) from rfl)
      have B1 := (blk_cell h3 1).trans (show _ = some (Value.slice Aa a ca) from rfl)
      have hj0 : (0 : Int) ≤ j := by omega
      have HKw := Lib.hid (((Kept.refl w).alloc _).trans hkr)
      clear hr hkr h3 HR0
      by_cases hlt : j < l.length
      · have hlti : (j : Int) < n2 := by have := HLL.out; omega
        have hjb : (j : Int) + 1 ≤ 9223372036854775807 := by have := HLL.out; have := HLB.out; omega
        obtain ⟨c, hi⟩ : ∃ c, l[j]? = some c := ⟨_, List.getElem?_eq_getElem hlt⟩
        obtain ⟨A3, c3, e2, _, _, hat⟩ := HC.out.keep HKw.out
        injection e2 with e3 e4 e5
        subst e3 e5
        clear e4
        obtain ⟨ad, rfl, hci⟩ := hat j c hi
        have hun := HR.out
        rw [drop_at hi, Dfa.scan] at hun
        have hcq := c.toNat_lt
        unfold bv at hci
        clear HR hi hat
        generalize c.toNat = q at *
        go_wp2_with fail
        refine (sstep_any _ _ d vs s q hcq _ (H.out.kept HKw.out)).mono ?_
        rintro e w5 ⟨z, rfl, hz, hk5⟩
        have HK5 := Lib.hid (HK.out.trans hk5)
        have HW5 := Lib.hid (HKw.out.trans hk5)
        have C1 := hk5.cell B1
        clear hk5 hci B0 B1
        cases hs : d.is (d.step s q) with
        | false =>
          rw [hs, if_neg (by simp)] at hun
          have HUN := Lib.hid hun
          clear hun hs hz
          go_wp2_with fail
          go_ret3
          refine ⟨?_, HW5.out⟩
          rw [← HUN.out]; rfl
        | true =>
          rw [hs, if_pos rfl] at hun
          have hz2 := hz hs
          rw [← hz2] at hun hs
          clear hz hz2
          obtain ⟨k, rfl, hk1, hk2⟩ := is_true hs
          obtain ⟨y, hy⟩ : ∃ y, d.acc[k]? = some y := ⟨_, List.getElem?_eq_getElem hk2⟩
          obtain ⟨ar, rfl, hcz⟩ := (H.out.acc.kept HW5.out).at (zs_get hy)
          have hla : a = d.acc.length := by
            obtain ⟨_, _, e, _⟩ := H.out.acc
            injection e with e1 e2 e3
            rw [e2, zs_len]
          have hval : d.val k = y := by simp [Dfa.val, hy]
          rw [hval] at hun
          have g0 : (0 : Int) ≤ k := by omega
          have g1 : (k : Int) < a := by omega
          clear hval hs hy hk1 hk2 hla
          by_cases hy0 : y < 0
          · rw [if_pos hy0] at hun
            have HUN := Lib.hid hun
            have hy1 : decide ((-1 : Int) < y) = false := by simp; omega
            clear hun hy0
            go_wp2_with fail
            go_roundw
            case rel => exact ⟨j + 1, m, r, k, by go_num, rfl, rfl, rfl, by omega, HUN.out, HK5.out⟩
            case measure => simp [intOf]; omega
          · rw [if_neg hy0] at hun
            have HUN := Lib.hid hun
            have hy1 : y > -1 := by omega
            clear hun hy0
            go_wp2_with fail
            go_roundw
            case rel => exact ⟨j + 1, j + 1, y, k, by go_num, rfl, by go_num, rfl, by omega, HUN.out, HK5.out⟩
            case measure => simp [intOf]; omega
      · have hge : ¬ (j : Int) < n2 := by have := HLL.out; omega
        have hE := HR.out
        rw [List.drop_eq_nil_of_le (by omega), Dfa.scan] at hE
        have hjn : j = n2 := by have := HLL.out; omega
        have hjb : (n2 : Int) + 1 ≤ 9223372036854775807 := by have := HLL.out; have := HLB.out; omega
        have HE := Lib.hid hE
        have HJ := Lib.hid hjn
        clear HR hE hjn
        go_wp2_with fail
        go_ret3
        refine ⟨?_, HKw.out⟩
        rw [← HE.out, HJ.out]; rfl
  · rw [if_neg hcl] at HC
    go_enter Try.func7, Try.ntmps7
    go_wp2_with (first | ((with_reducible refine wpList_min rfl _ _ _ _ _ rfl rfl rfl ?_); rw [HLO.out]) | (with_reducible refine wpList_max rfl _ _ _ _ _ rfl rfl rfl ?_))
    generalize Option.map _ Ab = A2 at HC ⊢
    generalize cb - lo = c2 at HC ⊢
    generalize bn - lo = n2 at HLL HC ⊢
    clear hcl hlo2 hbc HLO
    go_loopw [10, 11, 12, 26] (fun vr vl va vi wr => ∃ (j m : Nat) (r s : Int), vi = .int .i64 j ∧ va = .int .i64 s ∧ vl = .int .i64 m ∧ vr = .int .i64 r ∧ j ≤ l.length ∧ d.scan s j r m (l.drop j) = R ∧ Kept (w.alloc (.cells #[.slice An n cn, .slice Aa a ca] 25)) wr) (fun _ _ _ vi _ => l.length - (intOf vi).toNat)
    case atStart => exact ⟨0, 0, -1, 0, rfl, rfl, rfl, rfl, Nat.zero_le _, HR0.out, Kept.refl _⟩
    case round =>
      obtain ⟨j, m, r, s, rfl, rfl, rfl, rfl, hj, hr, hkr⟩ := hrel
      have HR := Lib.hid hr
      have HK := Lib.hid hkr
      have h3 := hkr.blk (blk_new w _)
      have B0 := (blk_cell h3 0).trans (show _ = some (Value.slice An n cn) from rfl)
      have B1 := (blk_cell h3 1).trans (show _ = some (Value.slice Aa a ca) from rfl)
      have hj0 : (0 : Int) ≤ j := by omega
      have HKw := Lib.hid (((Kept.refl w).alloc _).trans hkr)
      clear hr hkr h3 HR0
      by_cases hlt : j < l.length
      · have hlti : (j : Int) < n2 := by have := HLL.out; omega
        have hjb : (j : Int) + 1 ≤ 9223372036854775807 := by have := HLL.out; have := HLB.out; omega
        obtain ⟨c, hi⟩ : ∃ c, l[j]? = some c := ⟨_, List.getElem?_eq_getElem hlt⟩
        obtain ⟨A3, c3, e2, _, _, hat⟩ := HC.out.keep HKw.out
        injection e2 with e3 e4 e5
        subst e3 e5
        clear e4
        obtain ⟨ad, rfl, hci⟩ := hat j c hi
        have hun := HR.out
        rw [drop_at hi, Dfa.scan] at hun
        have hcq := c.toNat_lt
        unfold bv at hci
        clear HR hi hat
        generalize c.toNat = q at *
        go_wp2_with fail
        refine (sstep_any _ _ d vs s q hcq _ (H.out.kept HKw.out)).mono ?_
        rintro e w5 ⟨z, rfl, hz, hk5⟩
        have HK5 := Lib.hid (HK.out.trans hk5)
        have HW5 := Lib.hid (HKw.out.trans hk5)
        have C1 := hk5.cell B1
        clear hk5 hci B0 B1
        cases hs : d.is (d.step s q) with
        | false =>
          rw [hs, if_neg (by simp)] at hun
          have HUN := Lib.hid hun
          clear hun hs hz
          go_wp2_with fail
          go_ret3
          refine ⟨?_, HW5.out⟩
          rw [← HUN.out]; rfl
        | true =>
          rw [hs, if_pos rfl] at hun
          have hz2 := hz hs
          rw [← hz2] at hun hs
          clear hz hz2
          obtain ⟨k, rfl, hk1, hk2⟩ := is_true hs
          obtain ⟨y, hy⟩ : ∃ y, d.acc[k]? = some y := ⟨_, List.getElem?_eq_getElem hk2⟩
          obtain ⟨ar, rfl, hcz⟩ := (H.out.acc.kept HW5.out).at (zs_get hy)
          have hla : a = d.acc.length := by
            obtain ⟨_, _, e, _⟩ := H.out.acc
            injection e with e1 e2 e3
            rw [e2, zs_len]
          have hval : d.val k = y := by simp [Dfa.val, hy]
          rw [hval] at hun
          have g0 : (0 : Int) ≤ k := by omega
          have g1 : (k : Int) < a := by omega
          clear hval hs hy hk1 hk2 hla
          by_cases hy0 : y < 0
          · rw [if_pos hy0] at hun
            have HUN := Lib.hid hun
            have hy1 : decide ((-1 : Int) < y) = false := by simp; omega
            clear hun hy0
            go_wp2_with fail
            go_roundw
            case rel => exact ⟨j + 1, m, r, k, by go_num, rfl, rfl, rfl, by omega, HUN.out, HK5.out⟩
            case measure => simp [intOf]; omega
          · rw [if_neg hy0] at hun
            have HUN := Lib.hid hun
            have hy1 : y > -1 := by omega
            clear hun hy0
            go_wp2_with fail
            go_roundw
            case rel => exact ⟨j + 1, j + 1, y, k, by go_num, rfl, by go_num, rfl, by omega, HUN.out, HK5.out⟩
            case measure => simp [intOf]; omega
      · have hge : ¬ (j : Int) < n2 := by have := HLL.out; omega
        have hE := HR.out
        rw [List.drop_eq_nil_of_le (by omega), Dfa.scan] at hE
        have hjn : j = n2 := by have := HLL.out; omega
        have hjb : (n2 : Int) + 1 ≤ 9223372036854775807 := by have := HLL.out; have := HLB.out; omega
        have HE := Lib.hid hE
        have HJ := Lib.hid hjn
        clear HR hE hjn
        go_wp2_with fail
        go_ret3
        refine ⟨?_, HKw.out⟩
        rw [← HE.out, HJ.out]; rfl
end Go.Proofs.Ytjlhopfmhhafoaa
