/-
  What posit's walk does with a byte. Conditions: the walk's own rows are apart.
-/
import Derived.Test.YtdbffbdpofodmaaEnt
set_option linter.unusedSimpArgs false
namespace Go.Proofs.Ytdbffbdpofodmaa
open Go Go.RowKit Kit
theorem Kit.R1.cut0 {e base n cap : Nat} {w : World} {A : Option Addr} {xs : List Value} (h : R1 e base w (.slice A n cap) xs) : R1 e base w (.slice A 0 cap) [] := by
  refine ⟨by simp, ?_⟩
  rcases h.2 with ⟨ev, h0⟩ | ⟨g, cap', cur, ev, h1, h2, h3, h4, h5, h6⟩
  · injection ev with e1 e2 e3
    subst e1; subst e3
    exact .inl ⟨rfl, rfl⟩
  · injection ev with e1 e2 e3
    subst e1; subst e3
    exact .inr ⟨g, _, cur, rfl, h1, h2, Nat.zero_le _, h4, h5, by simp⟩
theorem own_cut (A : Option Addr) (n m cap : Nat) : Value.ownBlock (.slice A n cap) = Value.ownBlock (.slice A m cap) := by
  cases A <;> rfl
/-- The rows change places, and there is one step more. -/
theorem TkS.swap {b base n cap : Nat} {w : World} {p0 p2 p3 p4 : Value} {p : Pt} {st : Ps} {k : Nat} {vn vt : Value} {A : Option Addr} {N M T : List Nat} (h : TkS b base w p0 p2 p3 p4 p st k vn (.slice A n cap) vt N M T) (k1 : Nat) :
    TkS b base (((w.setCell ⟨b, 6, none⟩ (.slice A 0 cap)).setCell ⟨b, 7, none⟩ vn).setCell ⟨b, 5, none⟩ (.int .i64 (k1 : Nat))) p0 p2 p3 p4 p st k1 (.slice A 0 cap) vn vt [] N T := by
  have hbb := h.bb
  have hb2 := h.b2
  have ha1 := h.a1
  have ha3 := h.a3
  rw [own_cut A n 0 cap] at hb2 ha1
  have same : ∀ x, x ≠ b → (((w.setCell ⟨b, 6, none⟩ (.slice A 0 cap)).setCell ⟨b, 7, none⟩ vn).setCell ⟨b, 5, none⟩ (.int .i64 (k1 : Nat))).heap[x]? = w.heap[x]? := fun x h1 =>
    (set_other h1).trans ((set_other h1).trans (set_other h1))
  refine ⟨?_, h.pos.keep fun x _ hs => ⟨hs, same x (by omega)⟩, ?_, h.now.same fun x hx => same x (fun e => h.b1 (by rw [hx, e])), h.taken.same fun x hx => same x (fun e => h.b3 (by rw [hx, e])), h.len, h.bb, hb2, h.b1, h.b3, fun x hx hy => ha1 x hy hx, fun x hx hy => ha3 x (by rw [own_cut A n 0 cap]; exact hx) hy, h.a2⟩
  · have := h.obj
    unfold WO at *
    simp [World.setCell, Array.getElem?_modify, this]
  · exact h.spare.cut0.same fun x hx => same x (fun e => hb2 (by rw [hx, e]))
/-- What is gone on to from the places. -/
def allP (sets : List (BitVec 256)) (fol : List (List Nat)) (k c : Nat) : List Nat → List Nat → List Nat → List Nat × List Nat
  | [], N, T => (N, T)
  | i :: r, N, T => match fol[i]? with
    | none => allP sets fol k c r N T
    | some l => allP sets fol k c r (entP sets k c l N T).1 (entP sets k c l N T).2
def stepP (sets : List (BitVec 256)) (fol : List (List Nat)) (first : List Nat) (k c : Nat) (N T : List Nat) : List Nat × List Nat :=
  if k = 0 then allP sets fol 1 c N (entP sets 1 c first [] T).1 (entP sets 1 c first [] T).2 else allP sets fol (k + 1) c N [] T
def StpSaid (b base : Nat) (p0 p2 p3 p4 : Value) (p : Pt) (st : Ps) (k : Nat) (vn vt : Value) (N : List Nat) (R : List Nat × List Nat) (w : World) (e : Ending) (w' : World) : Prop :=
  e = .returned (.bool (decide (0 < R.1.length))) ∧ ∃ v, TkS b base w' p0 p2 p3 p4 p st (k + 1) v vn vt R.1 N R.2 ∧ Now (k + 1) R.1 R.2 ∧ Below base w w'
theorem below_set {base b i : Nat} {w : World} (hb : base ≤ b) (u : Value) : Below base w (w.setCell ⟨b, i, none⟩ u) := (Below.refl base w).setCell (p := ⟨b, i, none⟩) hb u
set_option maxRecDepth 100000 in
set_option maxHeartbeats 8000000 in
theorem step_0 (b base : Nat) (p0 p2 p3 p4 : Value) (p : Pt) (st : Ps) (k : Nat) (vn vs vt : Value) (N M T : List Nat) (c : Nat) (hc : c ≤ 255) (w : World) (h : TkS b base w p0 p2 p3 p4 p st k vn vs vt N M T) (hS : st.sets.length ≤ 150) (hN : N.length ≤ 150) (hk : k ≤ 1000) (hz : k = 0) (R : List Nat × List Nat) (HR : Hid (allP st.sets st.fol 1 c N (entP st.sets 1 c p.first [] T).1 (entP st.sets 1 c p.first [] T).2 = R)) : Calls Try.prog 29 #[ptr b, .int .u8 c] w (StpSaid b base p0 p2 p3 p4 p st k vn vt N R w) := by
  obtain ⟨k1, hk1⟩ : ∃ k1, k + 1 = k1 := ⟨_, rfl⟩
  have e1 : (1 : Nat) = k1 := by omega
  rw [e1] at HR
  clear e1
  unfold StpSaid
  rw [hk1]
  obtain ⟨AM, cM, rfl⟩ := h.spare.form
  obtain ⟨AN, cN, rfl⟩ := h.now.form
  obtain ⟨n, hn⟩ : ∃ n, (ints N).length = n := ⟨_, rfl⟩
  obtain ⟨m, hm⟩ : ∃ m, (ints M).length = m := ⟨_, rfl⟩
  obtain ⟨vS, vf, vL, vF, hagg, -, hff, -, hfl⟩ := h.pos
  simp only [Value.agg.injEq, Array.mk.injEq, List.cons.injEq, and_true, true_and] at hagg
  obtain ⟨rfl, rfl, rfl, rfl⟩ := hagg
  obtain ⟨fs, hfs, hfl, -⟩ := hfl
  obtain ⟨AF, cF, rfl⟩ := hfs.form
  obtain ⟨A1, c1, rfl⟩ := hff.form
  have hnn : n = N.length := by rw [← hn, ints_len]
  rw [hfl] at h ⊢
  obtain ⟨nf, hnf⟩ : ∃ nf, st.fol.length = nf := ⟨_, rfl⟩
  rw [hn, hm, hnf] at h
  rw [hn, hnf]
  rw [ints_len] at h hff ⊢
  have HNF := Lib.hid hnf
  have HS := Lib.hid hS
  have HFF := Lib.hid hff
  have hSw := h.swap k1
  have HSW := Lib.hid hSw
  have hbb := h.bb
  have hk1i : (k : Int) + 1 = k1 := by omega
  have hmi : (0 : Int) ≤ m := by omega
  have HBL := Lib.hid ((((below_set (i := 6) (w := w) hbb (.slice AM 0 cM))).setCell (p := ⟨b, 7, none⟩) hbb (.slice AN n cN)).setCell (p := ⟨b, 5, none⟩) hbb (.int .i64 (k1 : Nat)))
  obtain ⟨⟨m0, m1, m2, m3, m4, m5, m6, m7, m8⟩, mf⟩ := WO.lay h.obj
  have f5 := mf 5
  have f6 := mf 6
  have f7 := mf 7
  have hmc : m ≤ cM := by
    rcases h.spare.2 with ⟨ev, h0⟩ | ⟨g, cap', cur, ev, h1, h2, h3, h4, h5, h6⟩
    · injection ev with e1 e2 e3
      omega
    · injection ev with e1 e2 e3
      rw [hm] at h3
      omega
  have hmci : (m : Int) ≤ cM := by omega
  have hne : ((k1 : Int) == 1) = true := by
    rw [beq_iff_eq]
    omega
  have HNN := Lib.hid hnn
  have hn9 : n ≤ 150 := by omega
  clear hfs hfl hff hnf h hSw mf hm hnn hn hk1 hz hN
  unfold ptr
  go_enter Try.func29, Try.ntmps29
  go_wp2_with fail
  generalize ((w.setCell _ _).setCell _ _).setCell _ _ = w7 at HSW HBL ⊢
  clear m0 m1 m2 m3 m4 m5 m6 m7 m8 f5 f6 f7
  refine (enter_go b base p0 _ p3 _ p st k1 _ _ vt [] N T A1 c1 p.first c hc w7 HSW.out ⟨List.nodup_nil, by simp⟩ HS.out (HFF.out.keep fun x _ hx => ⟨hx, HBL.out.block x hx⟩) _ (Lib.hid rfl)).mono ?_
  rintro e w5 ⟨rfl, v5, h5, hn5, hb5⟩
  have H5 := Lib.hid h5
  have HN5 := Lib.hid hn5
  have HB5 := Lib.hid (HBL.out.trans hb5)
  clear h5 hn5 hb5 HSW HBL
  go_wp2_with fail
  go_loopw [46] (fun vi wr => ∃ (j : Nat) (V T' : List Nat) (vx : Value), vi = .int .i64 j ∧ j ≤ n ∧ allP st.sets st.fol k1 c (N.drop j) V T' = R ∧ TkS b base wr p0 (.slice A1 p.first.length c1) p3 (.slice AF nf cF) p st k1 vx (.slice AN n cN) vt V N T' ∧ Now k1 V T' ∧ Below base w wr) (fun vi _ => n - (intOf vi).toNat)
  case atStart => exact ⟨0, _, _, v5, rfl, Nat.zero_le _, HR.out, H5.out, HN5.out, HB5.out⟩
  case round =>
    clear HR H5 HN5 HB5
    obtain ⟨j, V, T', vx, rfl, hj, hr, hts, hnow, hbel⟩ := hrel
    have H := Lib.hid hts
    have HR := Lib.hid hr
    have HN := Lib.hid hnow
    have HB := Lib.hid hbel
    clear hts hr hnow hbel
    have hj0 : (0 : Int) ≤ j := by omega
    by_cases hlt : j < n
    · have hlti : (j : Int) < n := by omega
      have hjb : (j : Int) + 1 ≤ 9223372036854775807 := by omega
      obtain ⟨i, hi⟩ : ∃ i, N[j]? = some i := ⟨_, List.getElem?_eq_getElem (by rw [← HNN.out]; exact hlt)⟩
      obtain ⟨q, o, rfl, -, hci⟩ := H.out.spare.ls.at (ints_get hi)
      have hd := drop_at hi
      have hun := HR.out
      rw [hd, allP] at hun
      have HUN := Lib.hid hun
      have hi0 : (0 : Int) ≤ i := by omega
      obtain ⟨⟨m0, m1, m2, m3, m4, m5, m6, m7, m8⟩, -⟩ := WO.lay H.out.obj
      clear hd hun HR hi
      by_cases hin : i < nf
      case neg =>
        have hini : ¬ (i : Int) < nf := by omega
        have HRN : Hid (allP st.sets st.fol k1 c (N.drop (j + 1)) V T' = R) := Lib.hid (by
          have := HUN.out
          rw [List.getElem?_eq_none (by rw [HNF.out]; omega)] at this
          exact this)
        clear HUN
        go_wp2_with fail
        go_roundw
        case rel => exact ⟨j + 1, V, T', vx, by go_num, by omega, HRN.out, H.out, HN.out, HB.out⟩
        case measure => simp [intOf]; omega
      have hini : (i : Int) < nf := by omega
      obtain ⟨l, hl⟩ : ∃ l, st.fol[i]? = some l := ⟨_, List.getElem?_eq_getElem (by rw [HNF.out]; exact hin)⟩
      have hpos := H.out.pos
      obtain ⟨vS, vf, vL, vF, hagg, -, -, -, fs, hfs, hfl, hfe⟩ := hpos
      simp only [Value.agg.injEq, Array.mk.injEq, List.cons.injEq, and_true, true_and] at hagg
      obtain ⟨-, -, -, rfl⟩ := hagg
      obtain ⟨f, hf⟩ : ∃ f, fs[i]? = some f := ⟨_, List.getElem?_eq_getElem (by rw [hfl, HNF.out]; exact hin)⟩
      obtain ⟨qf, of, rfl, -, hcf⟩ := hfs.at hf
      have hle := hfe i f l hf hl
      obtain ⟨AL, cL, rfl⟩ := hle.form
      rw [ints_len] at hle hcf
      have HLE := Lib.hid hle
      have HUN2 : Hid (allP st.sets st.fol k1 c (N.drop (j + 1)) (entP st.sets k1 c l V T').1 (entP st.sets k1 c l V T').2 = R) := Lib.hid (by
        have := HUN.out
        rw [hl] at this
        exact this)
      clear HUN hl hfs hfl hfe hf hle
      go_wp2_with fail
      refine (enter_go b base p0 _ p3 _ p st k1 vx _ vt V N T' AL cL l c hc wr H.out HN.out HS.out HLE.out _ (Lib.hid rfl)).mono ?_
      rintro e w5 ⟨rfl, v5, h5, hn5, hb5⟩
      have H5 := Lib.hid h5
      have HN5 := Lib.hid hn5
      have HB5 := Lib.hid (HB.out.trans hb5)
      clear h5 hn5 hb5 m0 m1 m2 m3 m4 m5 m6 m7 m8
      go_wp2_with fail
      go_roundw
      case rel => exact ⟨j + 1, _, _, v5, by go_num, by omega, HUN2.out, H5.out, HN5.out, HB5.out⟩
      case measure => simp [intOf]; omega
    · have hge : ¬ (j : Int) < n := by omega
      have hE : (V, T') = R := by rw [← HR.out, List.drop_eq_nil_of_le (by rw [← HNN.out]; omega), allP]
      have HE := Lib.hid hE
      obtain ⟨⟨m0, m1, m2, m3, m4, m5, m6, m7, m8⟩, -⟩ := WO.lay H.out.obj
      obtain ⟨An, cn, rfl⟩ := H.out.now.form
      have hlen : ((ints V).length : Int) = V.length := by rw [ints_len]
      clear hE HR
      go_wp2_with fail
      go_ret
      rw [← HE.out]
      refine ⟨rfl, ?_⟩
      exact ⟨⟨_, H.out⟩, HN.out, HB.out⟩
set_option maxRecDepth 100000 in
set_option maxHeartbeats 8000000 in
theorem step_s (b base : Nat) (p0 p2 p3 p4 : Value) (p : Pt) (st : Ps) (k : Nat) (vn vs vt : Value) (N M T : List Nat) (c : Nat) (hc : c ≤ 255) (w : World) (h : TkS b base w p0 p2 p3 p4 p st k vn vs vt N M T) (hS : st.sets.length ≤ 150) (hN : N.length ≤ 150) (hk : k ≤ 1000) (hz : k ≠ 0) (R : List Nat × List Nat) (HR : Hid (allP st.sets st.fol (k + 1) c N [] T = R)) : Calls Try.prog 29 #[ptr b, .int .u8 c] w (StpSaid b base p0 p2 p3 p4 p st k vn vt N R w) := by
  obtain ⟨k1, hk1⟩ : ∃ k1, k + 1 = k1 := ⟨_, rfl⟩
  rw [hk1] at HR
  unfold StpSaid
  rw [hk1]
  obtain ⟨AM, cM, rfl⟩ := h.spare.form
  obtain ⟨AN, cN, rfl⟩ := h.now.form
  obtain ⟨n, hn⟩ : ∃ n, (ints N).length = n := ⟨_, rfl⟩
  obtain ⟨m, hm⟩ : ∃ m, (ints M).length = m := ⟨_, rfl⟩
  obtain ⟨vS, vf, vL, vF, hagg, -, hff, -, hfl⟩ := h.pos
  simp only [Value.agg.injEq, Array.mk.injEq, List.cons.injEq, and_true, true_and] at hagg
  obtain ⟨rfl, rfl, rfl, rfl⟩ := hagg
  obtain ⟨fs, hfs, hfl, -⟩ := hfl
  obtain ⟨AF, cF, rfl⟩ := hfs.form
  obtain ⟨A1, c1, rfl⟩ := hff.form
  have hnn : n = N.length := by rw [← hn, ints_len]
  rw [hfl] at h ⊢
  obtain ⟨nf, hnf⟩ : ∃ nf, st.fol.length = nf := ⟨_, rfl⟩
  rw [hn, hm, hnf] at h
  rw [hn, hnf]
  rw [ints_len] at h hff ⊢
  have HNF := Lib.hid hnf
  have HS := Lib.hid hS
  have HFF := Lib.hid hff
  have hSw := h.swap k1
  have HSW := Lib.hid hSw
  have hbb := h.bb
  have hk1i : (k : Int) + 1 = k1 := by omega
  have hmi : (0 : Int) ≤ m := by omega
  have HBL := Lib.hid ((((below_set (i := 6) (w := w) hbb (.slice AM 0 cM))).setCell (p := ⟨b, 7, none⟩) hbb (.slice AN n cN)).setCell (p := ⟨b, 5, none⟩) hbb (.int .i64 (k1 : Nat)))
  obtain ⟨⟨m0, m1, m2, m3, m4, m5, m6, m7, m8⟩, mf⟩ := WO.lay h.obj
  have f5 := mf 5
  have f6 := mf 6
  have f7 := mf 7
  have hmc : m ≤ cM := by
    rcases h.spare.2 with ⟨ev, h0⟩ | ⟨g, cap', cur, ev, h1, h2, h3, h4, h5, h6⟩
    · injection ev with e1 e2 e3
      omega
    · injection ev with e1 e2 e3
      rw [hm] at h3
      omega
  have hmci : (m : Int) ≤ cM := by omega
  have hne : ((k1 : Int) == 1) = false := by
    rw [beq_eq_false_iff_ne]
    omega
  have HNN := Lib.hid hnn
  have hn9 : n ≤ 150 := by omega
  clear hfs hfl hff hnf h hSw mf hm hnn hn hk1 hz hN
  unfold ptr
  go_enter Try.func29, Try.ntmps29
  go_wp2_with fail
  go_loopw [46] (fun vi wr => ∃ (j : Nat) (V T' : List Nat) (vx : Value), vi = .int .i64 j ∧ j ≤ n ∧ allP st.sets st.fol k1 c (N.drop j) V T' = R ∧ TkS b base wr p0 (.slice A1 p.first.length c1) p3 (.slice AF nf cF) p st k1 vx (.slice AN n cN) vt V N T' ∧ Now k1 V T' ∧ Below base w wr) (fun vi _ => n - (intOf vi).toNat)
  case atStart => exact ⟨0, [], T, _, rfl, Nat.zero_le _, HR.out, HSW.out, ⟨List.nodup_nil, by simp⟩, HBL.out⟩
  case round =>
    clear HR HSW HBL
    obtain ⟨j, V, T', vx, rfl, hj, hr, hts, hnow, hbel⟩ := hrel
    have H := Lib.hid hts
    have HR := Lib.hid hr
    have HN := Lib.hid hnow
    have HB := Lib.hid hbel
    clear hts hr hnow hbel
    have hj0 : (0 : Int) ≤ j := by omega
    by_cases hlt : j < n
    · have hlti : (j : Int) < n := by omega
      have hjb : (j : Int) + 1 ≤ 9223372036854775807 := by omega
      obtain ⟨i, hi⟩ : ∃ i, N[j]? = some i := ⟨_, List.getElem?_eq_getElem (by rw [← HNN.out]; exact hlt)⟩
      obtain ⟨q, o, rfl, -, hci⟩ := H.out.spare.ls.at (ints_get hi)
      have hd := drop_at hi
      have hun := HR.out
      rw [hd, allP] at hun
      have HUN := Lib.hid hun
      have hi0 : (0 : Int) ≤ i := by omega
      obtain ⟨⟨m0, m1, m2, m3, m4, m5, m6, m7, m8⟩, -⟩ := WO.lay H.out.obj
      clear hd hun HR hi
      by_cases hin : i < nf
      case neg =>
        have hini : ¬ (i : Int) < nf := by omega
        have HRN : Hid (allP st.sets st.fol k1 c (N.drop (j + 1)) V T' = R) := Lib.hid (by
          have := HUN.out
          rw [List.getElem?_eq_none (by rw [HNF.out]; omega)] at this
          exact this)
        clear HUN
        go_wp2_with fail
        go_roundw
        case rel => exact ⟨j + 1, V, T', vx, by go_num, by omega, HRN.out, H.out, HN.out, HB.out⟩
        case measure => simp [intOf]; omega
      have hini : (i : Int) < nf := by omega
      obtain ⟨l, hl⟩ : ∃ l, st.fol[i]? = some l := ⟨_, List.getElem?_eq_getElem (by rw [HNF.out]; exact hin)⟩
      have hpos := H.out.pos
      obtain ⟨vS, vf, vL, vF, hagg, -, -, -, fs, hfs, hfl, hfe⟩ := hpos
      simp only [Value.agg.injEq, Array.mk.injEq, List.cons.injEq, and_true, true_and] at hagg
      obtain ⟨-, -, -, rfl⟩ := hagg
      obtain ⟨f, hf⟩ : ∃ f, fs[i]? = some f := ⟨_, List.getElem?_eq_getElem (by rw [hfl, HNF.out]; exact hin)⟩
      obtain ⟨qf, of, rfl, -, hcf⟩ := hfs.at hf
      have hle := hfe i f l hf hl
      obtain ⟨AL, cL, rfl⟩ := hle.form
      rw [ints_len] at hle hcf
      have HLE := Lib.hid hle
      have HUN2 : Hid (allP st.sets st.fol k1 c (N.drop (j + 1)) (entP st.sets k1 c l V T').1 (entP st.sets k1 c l V T').2 = R) := Lib.hid (by
        have := HUN.out
        rw [hl] at this
        exact this)
      clear HUN hl hfs hfl hfe hf hle
      go_wp2_with fail
      refine (enter_go b base p0 _ p3 _ p st k1 vx _ vt V N T' AL cL l c hc wr H.out HN.out HS.out HLE.out _ (Lib.hid rfl)).mono ?_
      rintro e w5 ⟨rfl, v5, h5, hn5, hb5⟩
      have H5 := Lib.hid h5
      have HN5 := Lib.hid hn5
      have HB5 := Lib.hid (HB.out.trans hb5)
      clear h5 hn5 hb5 m0 m1 m2 m3 m4 m5 m6 m7 m8
      go_wp2_with fail
      go_roundw
      case rel => exact ⟨j + 1, _, _, v5, by go_num, by omega, HUN2.out, H5.out, HN5.out, HB5.out⟩
      case measure => simp [intOf]; omega
    · have hge : ¬ (j : Int) < n := by omega
      have hE : (V, T') = R := by rw [← HR.out, List.drop_eq_nil_of_le (by rw [← HNN.out]; omega), allP]
      have HE := Lib.hid hE
      obtain ⟨⟨m0, m1, m2, m3, m4, m5, m6, m7, m8⟩, -⟩ := WO.lay H.out.obj
      obtain ⟨An, cn, rfl⟩ := H.out.now.form
      have hlen : ((ints V).length : Int) = V.length := by rw [ints_len]
      clear hE HR
      go_wp2_with fail
      go_ret
      rw [← HE.out]
      refine ⟨rfl, ?_⟩
      exact ⟨⟨_, H.out⟩, HN.out, HB.out⟩
theorem step_any (b base : Nat) (p0 p2 p3 p4 : Value) (p : Pt) (st : Ps) (k : Nat) (vn vs vt : Value) (N M T : List Nat) (c : Nat) (hc : c ≤ 255) (w : World) (h : TkS b base w p0 p2 p3 p4 p st k vn vs vt N M T) (hS : st.sets.length ≤ 150) (hN : N.length ≤ 150) (hk : k ≤ 1000) (R : List Nat × List Nat) (HR : Hid (stepP st.sets st.fol p.first k c N T = R)) : Calls Try.prog 29 #[ptr b, .int .u8 c] w (StpSaid b base p0 p2 p3 p4 p st k vn vt N R w) := by
  have h1 := HR.out
  unfold stepP at h1
  by_cases hz : k = 0
  · rw [if_pos hz] at h1
    exact step_0 b base p0 p2 p3 p4 p st k vn vs vt N M T c hc w h hS hN hk hz R (Lib.hid h1)
  · rw [if_neg hz] at h1
    exact step_s b base p0 p2 p3 p4 p st k vn vs vt N M T c hc w h hS hN hk hz R (Lib.hid h1)
end Go.Proofs.Ytdbffbdpofodmaa
