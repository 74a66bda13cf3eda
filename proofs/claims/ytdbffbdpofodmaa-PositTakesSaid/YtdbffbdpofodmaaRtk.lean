/-
  What the document's Takes says. Conditions: the places are readable, in order, and not over 150.
-/
import Derived.Test.YtdbffbdpofodmaaEqt
import Derived.Test.YtdbffbdpofodmaaUni
set_option linter.unusedSimpArgs false
namespace Go.Proofs.Ytdbffbdpofodmaa
open Go Go.RowKit Kit
theorem rhas4 (x : BitVec 256) (c : Nat) (hc : c ≤ 255) (w : World) : Calls Try.prog 32 #[.agg #[.int .u64 (wdN x 0), .int .u64 (wdN x 1), .int .u64 (wdN x 2), .int .u64 (wdN x 3)], .int .u8 c] w fun e w' => e = .returned (.bool (x.getLsbD c)) ∧ Kept w w' := RHas_any x c hc w
def refT (st : Ps) (p : Pt) (bs : List UInt8) : Bool := if bs = [] then p.null else refP st p p.first bs
set_option maxRecDepth 100000 in
set_option maxHeartbeats 8000000 in
theorem rtakes_any (vP : Value) (p : Pt) (st : Ps) (vb : Value) (bs : List UInt8) (w : World) (h : PosAt (fun _ => True) w vP p st) (hb : Bs w vb bs) (hok : Ok st) (hpo : OkP st.sets.length p) (hS : st.sets.length ≤ 150) (hbs : bs.length ≤ 900) : Calls Try.prog 16 #[vP, vb] w fun e w' => e = .returned (.bool (refT st p bs)) ∧ Kept w w' := by
  obtain ⟨vS, vf, vL, vF, rfl, hls, hff, hll, hfl⟩ := h
  obtain ⟨A2, c2, e2⟩ := hff.form
  obtain ⟨A3, c3, e3⟩ := hll.form
  rw [ints_len] at e2 e3
  obtain ⟨fs, hfs, hfsl, hfse⟩ := hfl
  obtain ⟨A4, c4', e4⟩ := hfs.form
  obtain ⟨n2, hn2⟩ : ∃ n2, p.first.length = n2 := ⟨_, rfl⟩
  obtain ⟨n3, hn3⟩ : ∃ n3, p.last.length = n3 := ⟨_, rfl⟩
  obtain ⟨n, hn⟩ : ∃ n, st.sets.length = n := ⟨_, rfl⟩
  rw [hfsl, hok.1, hn] at e4
  rw [hn2] at e2
  rw [hn3] at e3
  have h29 : n2 ≤ 150 := by have := hpo.1.len; omega
  have h39 : n3 ≤ 150 := by have := hpo.2.len; omega
  have HN3 := Lib.hid hn3
  have HN2 := Lib.hid hn2
  subst e2 e3 e4
  have HFS := Lib.hid hfs
  have HFE := Lib.hid hfse
  have HFL := Lib.hid (hfsl.trans hok.1)
  have HFF := Lib.hid hff
  have HLL := Lib.hid hll
  have HLS := Lib.hid hls
  have HB := Lib.hid hb
  have HOK := Lib.hid (And.intro hok hpo)
  obtain ⟨AB, cB, rfl⟩ := hb.form
  obtain ⟨AS, cS, eS, -, -, -⟩ := hls
  subst eS
  have hn9 : n ≤ 150 := by omega
  obtain ⟨m, hm⟩ : ∃ m, bs.length = m := ⟨_, rfl⟩
  rw [hm] at HB ⊢ hbs
  rw [hn] at HLS HFL ⊢
  have HNN := Lib.hid hn
  have HMM := Lib.hid hm
  clear hff hll hfs hfsl hfse hb hS hn hm hok hpo hn2 hn3
  obtain ⟨R, hR⟩ : ∃ R, refT st p bs = R := ⟨_, rfl⟩
  rw [hR]
  by_cases hz : bs = []
  · obtain rfl : m = 0 := by rw [← HMM.out, hz]; rfl
    obtain rfl : p.null = R := by rw [← hR]; unfold refT; rw [if_pos hz]
    clear hR hz
    go_enter Try.func16, Try.ntmps16
    go_wp2
    go_ret
    exact ⟨rfl, (Kept.refl _).alloc _⟩
  have HR0 : Hid (refP st p p.first bs = R) := Lib.hid (by rw [← hR]; unfold refT; rw [if_neg hz])
  have hne : ((m : Int) == 0) = false := by
    rw [beq_eq_false_iff_ne]
    intro h
    exact hz (List.length_eq_zero_iff.1 (by rw [HMM.out]; omega))
  clear hR hz
  have hn0 : (0 : Int) ≤ n := by omega
  go_enter Try.func16, Try.ntmps16
  go_wp2_with fail
  have hb0 : (w.alloc (.cells #[Value.slice AS n cS, .bool p.null, .slice A2 n2 c2, .slice A3 n3 c3, .slice A4 n c4'] 33)).heap[w.heap.size]? = some (.cells #[Value.slice AS n cS, .bool p.null, .slice A2 n2 c2, .slice A3 n3 c3, .slice A4 n c4'] 33) := blk_new _ _
  have hkb : Kept w (w.alloc (.cells #[Value.slice AS n cS, .bool p.null, .slice A2 n2 c2, .slice A3 n3 c3, .slice A4 n c4'] 33)) := (Kept.refl _).alloc _
  obtain ⟨B, hB⟩ : ∃ B, w.heap.size = B := ⟨_, rfl⟩
  rw [hB] at hb0
  generalize w.alloc (.cells #[Value.slice AS n cS, .bool p.null, .slice A2 n2 c2, .slice A3 n3 c3, .slice A4 n c4'] 33) = w1 at hb0 hkb ⊢
  have HKB := Lib.hid hkb
  have HB0 := Lib.hid hb0
  clear hb0 hkb
  try rw [hB]
  clear hB
  go_loopg [6, 5] (m + 1) (fun gg vat vnow wr => ∃ (j : Nat) (now : List Nat) (An : Option Addr) (nn cn : Nat), vat = .int .i64 j ∧ vnow = .slice An nn cn ∧ nn = now.length ∧ j ≤ m ∧ m + 1 ≤ gg + j ∧ Up n now ∧ Ls (fun _ => True) wr vnow (ints now) ∧ refP st p now (bs.drop j) = R ∧ Kept w1 wr)
  case atStart => exact ⟨0, p.first, _, _, _, rfl, rfl, HN2.out.symm, Nat.zero_le _, by omega, HNN.out ▸ HOK.out.2.1, HFF.out.keep fun k hk _ => ⟨trivial, HKB.out.block k hk⟩, HR0.out, Kept.refl _⟩
  case round =>
    clear HR0
    obtain ⟨j, now, An, nn, cn, rfl, rfl, hnn, hj, hgg, hup, hnow, hr, hkr⟩ := hrel
    have HR := Lib.hid hr
    have HK := Lib.hid hkr
    have HNW := Lib.hid hnow
    have HUP := Lib.hid hup
    have HNE := Lib.hid hnn
    have hnn9 : nn ≤ 150 := by have := hup.len; omega
    obtain ⟨G0, hG0⟩ : ∃ G0, G0 = gk := ⟨_, rfl⟩
    have hgg0 : m + 1 ≤ G0 + j := by omega
    clear hr hkr hnow hup hnn hgg
    have hj0 : (0 : Int) ≤ j := by omega
    by_cases hlt : j < m
    · have hlti : (j : Int) < m := by omega
      have hjb : (j : Int) + 1 ≤ 9223372036854775807 := by omega
      obtain ⟨u, hu⟩ : ∃ u, bs[j]? = some u := ⟨_, List.getElem?_eq_getElem (by rw [HMM.out]; exact hlt)⟩
      have hbw := HB.out.keep (HKB.out.trans HK.out)
      obtain ⟨A', cap', eA, -, -, hcc⟩ := hbw
      injection eA with e1 e2 e3
      subst e1
      obtain ⟨ad, rfl, hcell0⟩ := hcc j u hu
      unfold bv at hcell0
      have HCE := Lib.hid hcell0
      have hd : bs.drop j = u :: bs.drop (j + 1) := by
        obtain ⟨h1, h2⟩ := List.getElem?_eq_some_iff.1 hu
        rw [← h2]
        exact List.drop_eq_getElem_cons h1
      have hun := HR.out
      rw [hd, refP] at hun
      obtain ⟨O, hO⟩ : ∃ O, onP st.sets u.toNat now = O := ⟨_, rfl⟩
      obtain ⟨X, hX⟩ : ∃ X, nxtP st.fol O [] = X := ⟨_, rfl⟩
      rw [hO, hX] at hun
      have HUN := Lib.hid hun
      have HOX : Hid ([] ++ onP st.sets u.toNat (now.drop 0) = O ∧ nxtP st.fol (onP st.sets u.toNat (now.drop 0)) [] = X) := Lib.hid (by rw [List.drop_zero, hO, hX]; exact ⟨rfl, rfl⟩)
      clear hd hun HR hu hcc e2 e3 hcell0 hO hX
      obtain ⟨W, hW⟩ : ∃ W, wr = W := ⟨_, rfl⟩
      subst hW
      go_wp2_with fail
      go_loopg [9, 8, 7] (nn + 1) (fun gi vi von vnx wq => ∃ (b : Nat) (on nx : List Nat), vi = .int .i64 b ∧ b ≤ nn ∧ nn + 1 ≤ gi + b ∧ R1 3 wr.heap.size wq von (ints on) ∧ Ls (fun k => von.ownBlock ≠ some k) wq vnx (ints nx) ∧ (on ++ onP st.sets u.toNat (now.drop b) = O ∧ nxtP st.fol (onP st.sets u.toNat (now.drop b)) nx = X) ∧ Up n nx ∧ on.length ≤ b ∧ Kept wr wq)
      case atStart => exact ⟨0, [], [], rfl, Nat.zero_le _, by omega, R1.nil _ _ _, Ls.nil _ _, HOX.out, Up.nil _, Nat.le_refl _, Kept.refl _⟩
      case round =>
        clear HOX
        obtain ⟨b, on, nx, rfl, hb, hgi, hon, hnx, hox, hux, hol, hkq⟩ := hrel
        obtain ⟨Ao, co, eo⟩ := hon.form
        obtain ⟨Ax, cx, ex⟩ := hnx.form
        rw [ints_len] at ex
        obtain ⟨n1, hn1⟩ : ∃ n1, (ints on).length = n1 := ⟨_, rfl⟩
        obtain ⟨nx1, hnx1⟩ : ∃ nx1, nx.length = nx1 := ⟨_, rfl⟩
        rw [hn1] at eo
        rw [hnx1] at ex
        subst eo ex
        have HN1 := Lib.hid hn1
        have HX1 := Lib.hid hnx1
        clear hn1 hnx1
        have HON := Lib.hid hon
        have HNX := Lib.hid hnx
        have HOX := Lib.hid hox
        have HUX := Lib.hid hux
        have HKQ := Lib.hid hkq
        clear hon hnx hox hux hkq
        have hb0' : (0 : Int) ≤ b := by omega
        have hkw1 := HK.out.trans HKQ.out
        have hkw := HKB.out.trans hkw1
        have hb1 := hkw1.blk HB0.out
        have x0 : wr.cell? ⟨B, 0, none⟩ = some (.slice AS n cS) := by rw [blk_cell hb1]; rfl
        have x3 : wr.cell? ⟨B, 3, none⟩ = some (.slice A3 n3 c3) := by rw [blk_cell hb1]; rfl
        have x4 : wr.cell? ⟨B, 4, none⟩ = some (.slice A4 n c4') := by rw [blk_cell hb1]; rfl
        by_cases hbl : b < nn
        · have hbli : (b : Int) < nn := by omega
          have hbb : (b : Int) + 1 ≤ 9223372036854775807 := by omega
          obtain ⟨i, hi⟩ : ∃ i, now[b]? = some i := ⟨_, List.getElem?_eq_getElem (by rw [← HNE.out]; exact hbl)⟩
          obtain ⟨qn, oo, rfl, -, hci⟩ := (HNW.out.kept HKQ.out).at (ints_get hi)
          have hin : i < n := HUP.out.2 i (List.mem_of_getElem? hi)
          have hini : (i : Int) < n := by omega
          have hi0 : (0 : Int) ≤ i := by omega
          obtain ⟨s, hs⟩ : ∃ s, st.sets[i]? = some s := ⟨_, List.getElem?_eq_getElem (by rw [HNN.out]; exact hin)⟩
          have hls := HLS.out.keep fun k hk _ => ⟨trivial, hkw.block k hk⟩
          obtain ⟨AS', cS', eS, -, -, hsc⟩ := hls
          injection eS with e1 e2 e3
          obtain ⟨kS, oS, eA, -, C0, C1, C2, C3⟩ := hsc i s hs
          rw [eA] at e1
          subst e1
          have hcell := HKQ.out.cell HCE.out
          have hok : okP st.sets u.toNat i = s.getLsbD u.toNat := by
            unfold okP
            rw [decide_eq_true (by rw [HNN.out]; exact hin), List.getD_eq_getElem?_getD, hs]
            rfl
          have hox := HOX.out
          rw [drop_at hi] at hox
          unfold onP at hox
          rw [List.filter_cons, hok] at hox
          have HOY := Lib.hid hox
          clear hs hsc eA e2 e3 hok hox HOX hi hkw hkw1 hb1
          go_wp2_with fail
          refine wp_region_go Kept pre_kept [([(10, none)], none), ([(36, some 0)], none), ([(37, some 1)], none), ([(10, none), (38, some 2)], some (38, true)), ([(2, none), (38, some 2)], some (38, true)), ([(40, some 4), (38, some 2)], some (38, true)), ([(41, some 5), (38, some 2)], some (38, true)), ([(39, some 3), (42, some 6), (38, some 2)], some (38, true)), ([(38, some 2), (43, some 7)], none), ([(44, some 8)], none), ([(2, none), (45, some 9)], some (45, true)), ([(46, some 10), (45, some 9)], some (45, true)), ([(10, none), (45, some 9)], some (45, true)), ([(47, some 11), (48, some 12), (45, some 9)], some (45, true)), ([(49, some 13), (45, some 9)], some (45, true)), ([(1, none), (45, some 9)], some (45, true)), ([(6, none), (45, some 9)], some (45, true)), ([(51, some 15), (52, some 16), (45, some 9)], some (45, true)), ([(53, some 17), (45, some 9)], some (45, true)), ([(50, some 14), (54, some 18), (45, some 9)], some (45, true)), ([(45, some 9), (55, some 19)], none)] (by kernel_rfl) 102 rfl (by kernel_rfl) (by kernel_rfl) ?_
          apply go_val pre_kept
          · rintro ρ wr ⟨hg, hn, hc, hf, hgl⟩
            simp only [Need, fat, List.nil_append, List.cons_append, List.getD_cons_zero, List.getD_cons_succ, Fct.hold, and_true] at hn
            refine ⟨by simp [wantP, hn], ?_⟩
            simp [execOp, hn, hc, go_sem]
            exact rfl
          apply go_val (x := .bool true) pre_kept
          · rintro ρ wr ⟨hg, hn, hc, hf, hgl⟩
            simp only [Need, fat, List.nil_append, List.cons_append, List.getD_cons_zero, List.getD_cons_succ, Fct.hold, and_true] at hn
            refine ⟨by simp [wantP, hn], ?_⟩
            simp [execOp, hn, hc, go_sem, hi0]
          apply go_val pre_kept
          · rintro ρ wr ⟨hg, hn, hc, hf, hgl⟩
            simp only [Need, fat, List.nil_append, List.cons_append, List.getD_cons_zero, List.getD_cons_succ, Fct.hold, and_true] at hn
            refine ⟨by simp [wantP, hn], ?_⟩
            simp [execOp, hn, hc, go_sem]
            exact rfl
          apply go_val pre_kept
          · rintro ρ wr ⟨hg, hn, hc, hf, hgl⟩
            simp only [Need, fat, List.nil_append, List.cons_append, List.getD_cons_zero, List.getD_cons_succ, Fct.hold, and_true] at hn
            refine ⟨by simp [wantP, hn], ?_⟩
            simp [execOp, hn, hc, go_sem]
            exact rfl
          apply go_val pre_kept
          · rintro ρ wr ⟨hg, hn, hc, hf, hgl⟩
            simp only [Need, fat, List.nil_append, List.cons_append, List.getD_cons_zero, List.getD_cons_succ, Fct.hold, and_true] at hn
            refine ⟨by simp [wantP, hn], ?_⟩
            simp [execOp, hn, hc, go_sem]
            exact rfl
          apply go_val pre_kept
          · rintro ρ wr ⟨hg, hn, hc, hf, hgl⟩
            simp only [Need, fat, List.nil_append, List.cons_append, List.getD_cons_zero, List.getD_cons_succ, Fct.hold, and_true] at hn
            have hl := And.intro (hg.cell x0) (And.intro (hg.cell x3) (hg.cell x4))
            refine ⟨by simp [wantP, hn], ?_⟩
            simp [execOp, hn, hc, hl, go_sem]
            exact rfl
          apply go_val pre_kept
          · rintro ρ wr ⟨hg, hn, hc, hf, hgl⟩
            simp only [Need, fat, List.nil_append, List.cons_append, List.getD_cons_zero, List.getD_cons_succ, Fct.hold, and_true] at hn
            refine ⟨by simp [wantP, hn], ?_⟩
            simp [execOp, hn, hc, go_sem]
            exact rfl
          apply go_val (x := .bool true) pre_kept
          · rintro ρ wr ⟨hg, hn, hc, hf, hgl⟩
            simp only [Need, fat, List.nil_append, List.cons_append, List.getD_cons_zero, List.getD_cons_succ, Fct.hold, and_true] at hn
            refine ⟨by simp [wantP, hn], ?_⟩
            simp [execOp, hn, hc, go_sem, hini]
          apply go_val (x := .bool true) pre_kept
          · rintro ρ wr ⟨hg, hn, hc, hf, hgl⟩
            simp only [Need, fat, List.nil_append, List.cons_append, List.getD_cons_zero, List.getD_cons_succ, Fct.hold, and_true] at hn
            refine ⟨by simp [wantP, hn], ?_⟩
            simp [execOp, hn, hc, go_sem]
          apply go_val pre_kept
          · rintro ρ wr ⟨hg, hn, hc, hf, hgl⟩
            simp only [Need, fat, List.nil_append, List.cons_append, List.getD_cons_zero, List.getD_cons_succ, Fct.hold, and_true] at hn
            refine ⟨by simp [wantP, hn], ?_⟩
            simp [execOp, hn, hc, go_sem]
            exact rfl
          apply go_val pre_kept
          · rintro ρ wr ⟨hg, hn, hc, hf, hgl⟩
            simp only [Need, fat, List.nil_append, List.cons_append, List.getD_cons_zero, List.getD_cons_succ, Fct.hold, and_true] at hn
            refine ⟨by simp [wantP, hn], ?_⟩
            simp [execOp, hn, hc, go_sem]
            exact rfl
          apply go_val pre_kept
          · rintro ρ wr ⟨hg, hn, hc, hf, hgl⟩
            simp only [Need, fat, List.nil_append, List.cons_append, List.getD_cons_zero, List.getD_cons_succ, Fct.hold, and_true] at hn
            have hl := And.intro (hg.cell x0) (And.intro (hg.cell x3) (hg.cell x4))
            refine ⟨by simp [wantP, hn], ?_⟩
            simp [execOp, hn, hc, hl, go_sem]
            exact rfl
          apply go_val pre_kept
          · rintro ρ wr ⟨hg, hn, hc, hf, hgl⟩
            simp only [Need, fat, List.nil_append, List.cons_append, List.getD_cons_zero, List.getD_cons_succ, Fct.hold, and_true] at hn
            refine ⟨by simp [wantP, hn], ?_⟩
            simp [execOp, hn, hc, go_sem]
            exact rfl
          apply go_val (x := .pointer (some ⟨kS, oS + i * 4, none⟩)) pre_kept
          · rintro ρ wr ⟨hg, hn, hc, hf, hgl⟩
            simp only [Need, fat, List.nil_append, List.cons_append, List.getD_cons_zero, List.getD_cons_succ, Fct.hold, and_true] at hn
            refine ⟨by simp [wantP, hn], ?_⟩
            simp [execOp, hn, hc, go_sem, hini, hin, hi0]
          apply go_val (x := .agg #[.int .u64 (wdN s 0), .int .u64 (wdN s 1), .int .u64 (wdN s 2), .int .u64 (wdN s 3)]) pre_kept
          · rintro ρ wr ⟨hg, hn, hc, hf, hgl⟩
            simp only [Need, fat, List.nil_append, List.cons_append, List.getD_cons_zero, List.getD_cons_succ, Fct.hold, and_true] at hn
            refine ⟨by simp [wantP, hn], ?_⟩
            simp [execOp, hn, hc, go_sem, hg.cell C0, hg.cell C1, hg.cell C2, hg.cell C3]
          apply go_val pre_kept
          · rintro ρ wr ⟨hg, hn, hc, hf, hgl⟩
            simp only [Need, fat, List.nil_append, List.cons_append, List.getD_cons_zero, List.getD_cons_succ, Fct.hold, and_true] at hn
            refine ⟨by simp [wantP, hn], ?_⟩
            simp [execOp, hn, hc, go_sem]
            exact rfl
          apply go_val pre_kept
          · rintro ρ wr ⟨hg, hn, hc, hf, hgl⟩
            simp only [Need, fat, List.nil_append, List.cons_append, List.getD_cons_zero, List.getD_cons_succ, Fct.hold, and_true] at hn
            refine ⟨by simp [wantP, hn], ?_⟩
            simp [execOp, hn, hc, go_sem]
            exact rfl
          apply go_val (x := .pointer (some (ad.add j))) pre_kept
          · rintro ρ wr ⟨hg, hn, hc, hf, hgl⟩
            simp only [Need, fat, List.nil_append, List.cons_append, List.getD_cons_zero, List.getD_cons_succ, Fct.hold, and_true] at hn
            refine ⟨by simp [wantP, hn], ?_⟩
            simp [execOp, hn, hc, go_sem, hlti, hlt, hj0]
          apply go_val (x := .int .u8 (u.toNat : Int)) pre_kept
          · rintro ρ wr ⟨hg, hn, hc, hf, hgl⟩
            simp only [Need, fat, List.nil_append, List.cons_append, List.getD_cons_zero, List.getD_cons_succ, Fct.hold, and_true] at hn
            refine ⟨by simp [wantP, hn], ?_⟩
            simp [execOp, hn, hc, go_sem, hg.cell hcell]
          apply go_callv (x := .bool (s.getLsbD u.toNat))
          · rintro ρ wr ⟨hg, hn, hc, hf, hgl⟩
            simp only [Need, fat, List.nil_append, List.cons_append, List.getD_cons_zero, List.getD_cons_succ, Fct.hold, and_true] at hn
            refine ⟨by simp [wantP, hn], _, _, by simp [execOp, hn, hf, hc, resolve, invoke, go_sem]; exact ⟨rfl, rfl⟩, ?_⟩
            exact (rhas4 s u.toNat (by have := u.toNat_lt; omega) _).mono fun e w' ⟨h1, h2⟩ => ⟨_, h1, rfl, h2⟩
          apply go_val (x := .bool (s.getLsbD u.toNat)) pre_kept
          · rintro ρ wr ⟨hg, hn, hc, hf, hgl⟩
            simp only [Need, fat, List.nil_append, List.cons_append, List.getD_cons_zero, List.getD_cons_succ, Fct.hold, and_true] at hn
            refine ⟨by simp [wantP, hn], ?_⟩
            simp [execOp, hn, hc, go_sem]
          intro w2 hk2
          simp only [Post, List.nil_append, List.cons_append, Act.put, List.setIfInBounds_toArray, List.set_cons_zero, List.set_cons_succ]
          rename_i hK
          refine hK _ _ ?_
          clear hK
          have hk4 := (Kept.drew (Kept.refl _)).trans hk2
          replace HKQ := Lib.hid (HKQ.out.trans hk4)
          replace HON := Lib.hid (HON.out.kept hk4)
          replace HNX := Lib.hid (HNX.out.kept hk4)
          clear x0 x3 x4 C0 C1 C2 C3 hcell hci hk2 hk4
          cases hbit : s.getLsbD u.toNat with
          | false =>
            have hoy := HOY.out
            rw [hbit] at hoy
            have HOZ := Lib.hid hoy
            clear hbit hoy HOY
            go_wp2_with fail
            go_roundg (gk - 1)
            case measure => omega
            case rel => exact ⟨b + 1, on, nx, by go_num, by omega, by omega, HON.out, HNX.out, HOZ.out, HUX.out, by omega, HKQ.out⟩
          | true =>
            have hoy := HOY.out
            rw [hbit] at hoy
            simp only [if_true] at hoy
            have HOZ := Lib.hid hoy
            clear hbit hoy HOY
            have hws : w2.heap.size = w2.heap.size := rfl
            have hkN : Kept w2 (w2.alloc (.cells #[.int .i64 (i : Nat)] 3)) := (Kept.refl _).alloc _
            have hbs := HKQ.out.size
            have HON1 := Lib.hid (HON.out.kept hkN)
            have HNX1 := Lib.hid (HNX.out.kept hkN)
            have HKN := Lib.hid (HKQ.out.trans hkN)
            have HBS := Lib.hid (HKN.out.size)
            have HCN : Hid ((w2.alloc (.cells #[.int .i64 (i : Nat)] 3)).cell? ⟨w2.heap.size, 0, none⟩ = some (.int .i64 (i : Nat))) := Lib.hid (by rw [blk_cell (blk_new w2 _)]; rfl)
            have HNL : Hid ((ints on).length ≤ 100000) := Lib.hid (by rw [ints_len]; omega)
            obtain ⟨n4, hn4⟩ : ∃ n4, (ints on ++ [Value.int .i64 (i : Nat)]).length = n4 := ⟨_, rfl⟩
            have HL4 := Lib.hid hn4
            obtain ⟨f, hf⟩ : ∃ f, fs[i]? = some f := ⟨_, List.getElem?_eq_getElem (by rw [HFL.out]; exact hin)⟩
            obtain ⟨l, hl⟩ : ∃ l, st.fol[i]? = some l := ⟨_, List.getElem?_eq_getElem (by rw [HOK.out.1.1, HNN.out]; exact hin)⟩
            obtain ⟨kf, of, rfl, -, hcf⟩ := HFS.out.at hf
            have HLF := Lib.hid (HFE.out i f l hf hl)
            have HLU : Hid (Up n l) := Lib.hid (HNN.out ▸ HOK.out.1.2 l (List.mem_of_getElem? hl))
            have hox := HOZ.out.2
            rw [nxtP, hl] at hox
            have HOZ2 := Lib.hid (And.intro HOZ.out.1 hox)
            have HCF := Lib.hid hcf
            clear hf hl hcf hox HOZ
            clear hkN HON HNX hn4 hbs hws HKQ
            go_wp2_with (at_builtin; refine wpList_push1 rfl _ _ 30 3 (.inl ⟨rfl, rfl⟩) rfl rfl HON1.out (.int .i64 (i : Nat)) rfl w2.heap.size rfl HCN.out HNL.out HBS.out ?_; intro v8 w8 hraw hgr hown; obtain ⟨A8, cap8, e8⟩ := hraw.form; rw [HL4.out] at e8; subst e8; have HR8 := Lib.hid (And.intro hraw (And.intro hgr hown)); have hK8 := HKN.out.grown hgr (fun q hq => (HON1.out.own q hq).1); have hb8 := (HK.out.trans hK8).blk HB0.out; have x4 : w8.cell? ⟨B, 4, none⟩ = some (.slice (some ⟨kf, of, none⟩) n c4') := (by rw [blk_cell hb8]; rfl); have hc8 := ((HKB.out.trans HK.out).trans hK8).cell HCF.out; have HK8 := Lib.hid hK8; clear hraw hgr hown hb8 hK8)
            have hls8 : Ls (fun k => Value.ownBlock (.slice A8 n4 cap8) ≠ some k) w8 (.slice Ax nx1 cx) (ints nx) := HNX1.out.keep fun k hk hs => ⟨fun e => by
              rcases HR8.out.2.2 with h | h
              · rw [h] at e; exact hs e
              · rw [h] at e; injection e with e; omega, HR8.out.2.1.block k hk (fun e => hs e.symm)⟩
            have hlf := HLF.out.keep (S' := fun _ => True) (w' := w8) fun k hk _ => ⟨trivial, ((HKB.out.trans HK.out).trans HK8.out).block k hk⟩
            refine (union_any _ _ _ _ nx l w8 hls8 hlf (by have := HUX.out.len; omega) (by have := HLU.out.len; omega)).mono ?_
            rintro e w9 ⟨v9, rfl, hv9, hk9⟩
            have HO9 := Lib.hid (HR8.out.1.kept hk9)
            have HV9 : Hid (Ls (fun k => Value.ownBlock (.slice A8 n4 cap8) ≠ some k) w9 v9 (ints (uni nx l))) := Lib.hid (hv9.weak fun k _ hk e => by have := (HR8.out.1.own k e).2; omega)
            have HK9 := Lib.hid (HK8.out.trans hk9)
            have HU9 := Lib.hid (HUX.out.uni HLU.out)
            clear hls8 hlf hv9 hk9 x4 hc8
            go_wp2_with fail
            go_roundg (gk - 1)
            case measure => omega
            case rel =>
              refine ⟨b + 1, on ++ [i], uni nx l, by go_num, by omega, by omega, ?_, HV9.out, ⟨by rw [List.append_assoc]; exact HOZ2.out.1, HOZ2.out.2⟩, HU9.out, by rw [List.length_append, List.length_singleton]; omega, HK9.out⟩
              have e : ints (on ++ [i]) = ints on ++ [.int .i64 (i : Nat)] := by unfold ints; simp
              rw [e]
              exact HO9.out
        · have hbe : b = nn := by omega
          subst hbe
          have hbge : ¬ (b : Int) < b := by omega
          have hdr : now.drop b = [] := List.drop_eq_nil_of_le (by rw [HNE.out]; exact Nat.le_refl _)
          have hox := HOX.out
          rw [hdr] at hox
          simp only [onP, List.filter_nil, List.append_nil, nxtP] at hox
          obtain ⟨rfl, rfl⟩ := hox
          have HNXU : Hid (Ls (fun _ => True) wr (.slice Ax nx1 cx) (ints nx)) := Lib.hid (HNX.out.weak fun _ _ _ => trivial)
          clear hdr HOX HNX hgi
          by_cases hlast : j + 1 = m
          · have hnl : ((j : Int) == (m : Int) - 1) = true := by
              rw [beq_iff_eq]
              omega
            have hm1 : (m : Int) - 1 ≤ 900 := by omega
            have hrn : on.any (fun i => p.last.any (fun x => decide (x = i))) = R := by
              have := HUN.out
              rw [if_pos (List.drop_eq_nil_of_le (by rw [HMM.out]; omega))] at this
              exact this
            have HRN := Lib.hid hrn
            have hn1 : n1 = on.length := by rw [← HN1.out, ints_len]
            have hn19 : n1 ≤ 150 := by omega
            have HNN1 := Lib.hid hn1
            have HKW1 := Lib.hid hkw1
            clear hrn HUN x0 x3 x4 hn1 hkw hkw1 hb1
            go_wp2_with fail
            go_loopg [11] (n1 + 1) (fun g3 v3 wq => ∃ x : Nat, v3 = .int .i64 x ∧ x ≤ n1 ∧ n1 + 1 ≤ g3 + x ∧ (on.drop x).any (fun i => p.last.any (fun x => decide (x = i))) = R ∧ Kept wr wq)
            case atStart => exact ⟨0, rfl, Nat.zero_le _, by omega, by rw [List.drop_zero]; exact HRN.out, Kept.refl _⟩
            case round =>
              clear HRN
              obtain ⟨x, rfl, hxn, hg3, hr3, hk3⟩ := hrel
              have HR3 := Lib.hid hr3
              have HK3 := Lib.hid hk3
              obtain ⟨G3, hG3⟩ : ∃ G3, G3 = gk := ⟨_, rfl⟩
              have hgg3 : n1 + 1 ≤ G3 + x := by omega
              clear hr3 hk3 hg3
              have hx0 : (0 : Int) ≤ x := by omega
              by_cases hx : x < n1
              · have hxi : (x : Int) < n1 := by omega
                have hxb : (x : Int) + 1 ≤ 9223372036854775807 := by omega
                obtain ⟨ov, hov⟩ : ∃ ov, on[x]? = some ov := ⟨_, List.getElem?_eq_getElem (by rw [← HNN1.out]; exact hx)⟩
                obtain ⟨k8, o8, rfl, -, hc8⟩ := HON.out.ls.at (ints_get hov)
                have HC8 := Lib.hid hc8
                have hr3 := HR3.out
                rw [drop_at hov, List.any_cons] at hr3
                have H34 : Hid (((p.last.drop 0).any (fun x => decide (x = ov)) || (on.drop (x + 1)).any (fun i => p.last.any (fun x => decide (x = i)))) = R) := Lib.hid hr3
                clear hr3 hov hc8 HR3
                go_wp2_with fail
                go_loopg [12] (n3 + 1) (fun g4 v4 wq => ∃ y : Nat, v4 = .int .i64 y ∧ y ≤ n3 ∧ n3 + 1 ≤ g4 + y ∧ ((p.last.drop y).any (fun x => decide (x = ov)) || (on.drop (x + 1)).any (fun i => p.last.any (fun x => decide (x = i)))) = R ∧ Kept wr wq)
                case atStart => exact ⟨0, rfl, Nat.zero_le _, by omega, H34.out, Kept.refl _⟩
                case round =>
                  clear H34
                  obtain ⟨y, rfl, hyn, hg4, hr4, hk4⟩ := hrel
                  have HR4 := Lib.hid hr4
                  have HK4 := Lib.hid (HK3.out.trans hk4)
                  have HK5 := Lib.hid hk4
                  clear hr4 hk4
                  have hy0 : (0 : Int) ≤ y := by omega
                  have hkB := HKW1.out.trans HK4.out
                  have hb1 := hkB.blk HB0.out
                  have x0 : wr.cell? ⟨B, 0, none⟩ = some (.slice AS n cS) := by rw [blk_cell hb1]; rfl
                  have x3 : wr.cell? ⟨B, 3, none⟩ = some (.slice A3 n3 c3) := by rw [blk_cell hb1]; rfl
                  have x4 : wr.cell? ⟨B, 4, none⟩ = some (.slice A4 n c4') := by rw [blk_cell hb1]; rfl
                  by_cases hy : y < n3
                  · have hyi : (y : Int) < n3 := by omega
                    have hyb : (y : Int) + 1 ≤ 9223372036854775807 := by omega
                    obtain ⟨lv, hlv⟩ : ∃ lv, p.last[y]? = some lv := ⟨_, List.getElem?_eq_getElem (by rw [HN3.out]; exact hy)⟩
                    obtain ⟨k3, o3, rfl, -, hc3⟩ := HLL.out.at (ints_get hlv)
                    have L3 := (HKB.out.trans hkB).cell hc3
                    have L8 := HK4.out.cell HC8.out
                    have heq : ((lv : Int) == (ov : Int)) = decide (lv = ov) := by
                      rw [Bool.eq_iff_iff, beq_iff_eq, decide_eq_true_iff]
                      omega
                    have hr4 := HR4.out
                    rw [drop_at hlv, List.any_cons] at hr4
                    have HR5 := Lib.hid hr4
                    clear hlv hc3 hr4 HR4 hkB hb1
                    go_wp2_with fail
                    refine wp_region_go Kept pre_kept [([(2, none)], none), ([(91, some 0)], none), ([(12, none)], none), ([(92, some 1), (93, some 2)], none), ([(94, some 3)], none), ([(8, none)], none), ([(11, none)], none), ([(96, some 5), (97, some 6)], none), ([(98, some 7)], none), ([(95, some 4), (99, some 8)], none)] (by kernel_rfl) 102 rfl (by kernel_rfl) (by kernel_rfl) ?_
                    apply go_val pre_kept
                    · rintro ρ wr ⟨hg, hn, hc, hf, hgl⟩
                      simp only [Need, fat, List.nil_append, List.cons_append, List.getD_cons_zero, List.getD_cons_succ, Fct.hold, and_true] at hn
                      refine ⟨by simp [wantP, hn], ?_⟩
                      simp [execOp, hn, hc, go_sem]
                      exact rfl
                    apply go_val pre_kept
                    · rintro ρ wr ⟨hg, hn, hc, hf, hgl⟩
                      simp only [Need, fat, List.nil_append, List.cons_append, List.getD_cons_zero, List.getD_cons_succ, Fct.hold, and_true] at hn
                      have hl := And.intro (hg.cell x0) (And.intro (hg.cell x3) (hg.cell x4))
                      refine ⟨by simp [wantP, hn], ?_⟩
                      simp [execOp, hn, hc, hl, go_sem]
                      exact rfl
                    apply go_val pre_kept
                    · rintro ρ wr ⟨hg, hn, hc, hf, hgl⟩
                      simp only [Need, fat, List.nil_append, List.cons_append, List.getD_cons_zero, List.getD_cons_succ, Fct.hold, and_true] at hn
                      refine ⟨by simp [wantP, hn], ?_⟩
                      simp [execOp, hn, hc, go_sem]
                      exact rfl
                    apply go_val (x := .pointer (some ⟨k3, o3 + y, none⟩)) pre_kept
                    · rintro ρ wr ⟨hg, hn, hc, hf, hgl⟩
                      simp only [Need, fat, List.nil_append, List.cons_append, List.getD_cons_zero, List.getD_cons_succ, Fct.hold, and_true] at hn
                      refine ⟨by simp [wantP, hn], ?_⟩
                      simp [execOp, hn, hc, go_sem, hyi, hy, hy0]
                    apply go_val (x := .int .i64 (lv : Int)) pre_kept
                    · rintro ρ wr ⟨hg, hn, hc, hf, hgl⟩
                      simp only [Need, fat, List.nil_append, List.cons_append, List.getD_cons_zero, List.getD_cons_succ, Fct.hold, and_true] at hn
                      refine ⟨by simp [wantP, hn], ?_⟩
                      simp [execOp, hn, hc, go_sem, hg.cell L3]
                    apply go_val pre_kept
                    · rintro ρ wr ⟨hg, hn, hc, hf, hgl⟩
                      simp only [Need, fat, List.nil_append, List.cons_append, List.getD_cons_zero, List.getD_cons_succ, Fct.hold, and_true] at hn
                      refine ⟨by simp [wantP, hn], ?_⟩
                      simp [execOp, hn, hc, go_sem]
                      exact rfl
                    apply go_val pre_kept
                    · rintro ρ wr ⟨hg, hn, hc, hf, hgl⟩
                      simp only [Need, fat, List.nil_append, List.cons_append, List.getD_cons_zero, List.getD_cons_succ, Fct.hold, and_true] at hn
                      refine ⟨by simp [wantP, hn], ?_⟩
                      simp [execOp, hn, hc, go_sem]
                      exact rfl
                    apply go_val (x := .pointer (some ⟨k8, o8 + x, none⟩)) pre_kept
                    · rintro ρ wr ⟨hg, hn, hc, hf, hgl⟩
                      simp only [Need, fat, List.nil_append, List.cons_append, List.getD_cons_zero, List.getD_cons_succ, Fct.hold, and_true] at hn
                      refine ⟨by simp [wantP, hn], ?_⟩
                      simp [execOp, hn, hc, go_sem, hxi, hx, hx0]
                    apply go_val (x := .int .i64 (ov : Int)) pre_kept
                    · rintro ρ wr ⟨hg, hn, hc, hf, hgl⟩
                      simp only [Need, fat, List.nil_append, List.cons_append, List.getD_cons_zero, List.getD_cons_succ, Fct.hold, and_true] at hn
                      refine ⟨by simp [wantP, hn], ?_⟩
                      simp [execOp, hn, hc, go_sem, hg.cell L8]
                    apply go_val (x := .bool (decide (lv = ov))) pre_kept
                    · rintro ρ wr ⟨hg, hn, hc, hf, hgl⟩
                      simp only [Need, fat, List.nil_append, List.cons_append, List.getD_cons_zero, List.getD_cons_succ, Fct.hold, and_true] at hn
                      refine ⟨by simp [wantP, hn], ?_⟩
                      simp [execOp, hn, hc, go_sem, heq]
                    intro w2 hk2
                    simp only [Post, List.nil_append, List.cons_append, Act.put, List.setIfInBounds_toArray, List.set_cons_zero, List.set_cons_succ]
                    rename_i hK
                    refine hK _ _ ?_
                    clear hK
                    have hk6 := (Kept.drew (Kept.refl _)).trans hk2
                    have HK6 := Lib.hid (HK5.out.trans hk6)
                    have HK7 := Lib.hid (HKW1.out.trans (HK4.out.trans hk6))
                    clear hk6 hk2 L3 L8 x0 x3 x4
                    by_cases hd : lv = ov
                    · have HT : Hid (R = true) := Lib.hid (by rw [← HR5.out, decide_eq_true hd]; simp)
                      rw [decide_eq_true hd]
                      clear hd heq HR5
                      go_wp2_with fail
                      go_ret
                      exact ⟨by rw [HT.out]; rfl, HKB.out.trans HK7.out⟩
                    · have hr5 := HR5.out
                      rw [decide_eq_false hd, Bool.false_or] at hr5
                      have HR6 := Lib.hid hr5
                      rw [decide_eq_false hd]
                      clear hd heq HR5 hr5
                      go_wp2_with fail
                      go_roundg (gk - 1)
                      case measure => omega
                      case rel => exact ⟨y + 1, by go_num, by omega, by omega, HR6.out, HK6.out⟩
                  · have hyge : ¬ (y : Int) < n3 := by omega
                    have hr4 := HR4.out
                    rw [List.drop_eq_nil_of_le (by rw [HN3.out]; omega), List.any_nil, Bool.false_or] at hr4
                    have HR6 := Lib.hid hr4
                    clear hr4 HR4 hkB hb1
                    go_wp2_with fail
                    go_roundg (G3 - 1)
                    case measure => omega
                    case rel => exact ⟨x + 1, by go_num, by omega, by omega, HR6.out, HK4.out⟩
              · have hxge : ¬ (x : Int) < n1 := by omega
                have hr3 := HR3.out
                rw [List.drop_eq_nil_of_le (by rw [← HNN1.out]; omega), List.any_nil] at hr3
                have HF := Lib.hid hr3
                clear hr3 HR3
                go_wp2_with fail
                go_ret
                exact ⟨by rw [← HF.out]; rfl, HKB.out.trans (HKW1.out.trans HK3.out)⟩
          · have hnl : ((j : Int) == (m : Int) - 1) = false := by
              rw [beq_eq_false_iff_ne]
              omega
            have hm1 : (m : Int) - 1 ≤ 900 := by omega
            have hrn : refP st p nx (bs.drop (j + 1)) = R := by
              have := HUN.out
              rw [if_neg (fun e => by
                have := congrArg List.length e
                rw [List.length_drop, HMM.out] at this
                simp at this
                omega)] at this
              exact this
            have HRN := Lib.hid hrn
            clear hrn HUN
            go_wp2_with fail
            go_roundg (G0 - 1)
            case measure => omega
            case rel => exact ⟨j + 1, nx, Ax, nx1, cx, by go_num, rfl, HX1.out.symm, by omega, by omega, HUX.out, HNXU.out, HRN.out, hkw1⟩
    · have hge : ¬ (j : Int) < m := by omega
      have hr := HR.out
      rw [List.drop_eq_nil_of_le (by rw [HMM.out]; omega), refP] at hr
      have HF := Lib.hid hr
      clear hr HR
      go_wp2_with fail
      go_ret
      exact ⟨by rw [← HF.out]; rfl, HKB.out.trans HK.out⟩
end Go.Proofs.Ytdbffbdpofodmaa
