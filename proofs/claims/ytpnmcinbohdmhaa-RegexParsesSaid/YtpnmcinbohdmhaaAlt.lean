/-
  What regex.alternative reads. Conditions: the text is no longer than 200 bytes, and the reader stands within it.
-/
import Derived.Test.YtpnmcinbohdmhaaSeq
set_option linter.unusedSimpArgs false
namespace Go.Proofs.Ytpnmcinbohdmhaa
open Go Go.RowKit Kit
theorem altL_eq {G : Nat → Res Re} {s : ByteArray} {acc : List Re} {k : Nat} : altL G s acc k = match seqL G s [] k with | .err e j => .err e j | .ok x j => if byteAt s j = some 124 then if k ≤ j then altL G s (acc ++ [x]) (j + 1) else .err 0 0 else .ok (gather 3 (acc ++ [x])) j := by
  rw [altL]
  cases seqL G s [] k <;> rfl
set_option maxHeartbeats 4000000 in
theorem alternative_go (g : Nat) (s : ByteArray) (k op : Nat) (G : Nat → Res Re) (w : World) (h : Rd g s k op w) (hs : s.size ≤ 200) (hk : k ≤ s.size) (hG : ∀ k, k ≤ s.size → Fz s k (seqL G s [] k)) (HC : ∀ k, k ≤ s.size → ∀ w, Rd g s k op w → Calls Try.prog 23 #[ptr g] w (RePost g s op (seqL G s [] k) w)) (R : Res Re) (HR : Hid (altL G s [] k = R)) : Calls Try.prog 17 #[ptr g] w (RePost g s op R w) := by
  have HQ := Lib.hid (And.intro HC hG)
  clear HC hG
  unfold RePost at HQ
  have hgl := h.lt
  have H := Lib.hid ((St.start h).alloc (.cells #[.int .i64 0, .int .u64 0, .int .u64 0, .int .u64 0, .int .u64 0, .slice none 0 0] 27))
  obtain ⟨⟨c0, c1, c2⟩, f0, f1, f2⟩ := h.cells
  clear h
  unfold ptr at *
  have HI := Lib.hid H.out
  go_enter Try.func17, Try.ntmps17
  go_wp2_with fail
  clear c0 c1 c2 f0 f1 f2
  go_loopw [4] (fun v wr => ∃ (j : Nat) (acc : List Re), j ≤ s.size ∧ acc.length ≤ j ∧ altL G s acc j = R ∧ Row (w.heap.size + 1) wr v acc ∧ St g s j op [(w.heap.size, (.cells #[.int .i64 0, .int .u64 0, .int .u64 0, .int .u64 0, .int .u64 0, .slice none 0 0] 27))] w wr) (fun _ wr => s.size - atOf g wr)
  case atStart => exact ⟨k, [], hk, Nat.zero_le _, HR.out, Row.nil _ _, HI.out⟩
  case round =>
    clear HR HI H
    obtain ⟨j, acc, hj, hl, hr, hrow, hst⟩ := hrel
    have H := Lib.hid hst
    have HW := Lib.hid hrow
    have HL := Lib.hid hl
    have HM := Lib.hid (atOf_rd H.out.1)
    have HCALL := Lib.hid (HQ.out.1 j hj wr H.out.1)
    have hun := hr
    rw [altL_eq] at hun
    have hfw := HQ.out.2 j hj
    have hrl := blk_lt (H.out.blk List.mem_cons_self)
    clear hst hr hrow hl
    cases hR : seqL G s [] j with
    | err er i =>
      rw [hR] at HCALL hun hfw
      simp only at hun
      have HE := Lib.hid hun.symm
      have her : ¬ (er : Int) = 0 := by have := hfw.1; omega
      clear hun hfw hR
      obtain ⟨vs, hv1, -, -⟩ := HW.out
      obtain ⟨A0, cap0, rfl⟩ := hv1.form
      clear hv1 HW
      go_wp2_with fail
      refine HCALL.out.mono ?_
      rintro e w5 ⟨rfl, ⟨op', h2⟩, h3⟩
      replace H := Lib.hid (H.out.step h2 h3)
      have hrl5 := blk_lt (H.out.blk List.mem_cons_self)
      clear h2 h3 HCALL HM
      unfold zre
      obtain ⟨⟨d0, d1, d2, d3, d4, d5⟩, g0, g1, g2, g3, g4, g5⟩ := box6 (H.out.blk List.mem_cons_self)
      have HF := Lib.hid (ret_re H.out (Nat.le_refl _) (.int .i64 0) (.int .u64 0) (.int .u64 0) (.int .u64 0) (.int .u64 0) (.slice none 0 0))
      go_wp2_with fail
      refine bodyPost_ret (v := .tuple #[zre, .int .i64 er]) ?_ rfl ?_
      · simp [results, Try.results17, go_sem, zre, d0, d1, d2, d3, d4, d5, hrl5]
      · rw [HE.out]
        exact ⟨rfl, ⟨_, HF.out.2.1.kept ((Kept.refl _).alloc _)⟩, HF.out.2.2.alloc _⟩
    | ok x i =>
      rw [hR] at HCALL hun hfw
      simp only at hun
      obtain ⟨hji, his⟩ := hfw
      have HUN := Lib.hid hun
      clear hun hR
      obtain ⟨vs, hv1, hv2, hv3⟩ := HW.out
      obtain ⟨A0, cap0, rfl⟩ := hv1.form
      have HO := Lib.hid hv1.own
      have HV := Lib.hid (And.intro hv1 (And.intro hv2 hv3))
      have HN := Lib.hid (show vs.length ≤ 100000 by have := HL.out; omega)
      clear hv1 hv2 hv3 HW
      go_wp2_with fail
      refine HCALL.out.mono ?_
      rintro e w5 ⟨u, rfl, hx, h2, h3⟩
      obtain ⟨o1, s1, A1, n1, p1, rfl⟩ := hx.form
      have K7 : Kept w5 ((w5.alloc (.cells #[.int .i64 o1, .int .u64 (wdN s1 0), .int .u64 (wdN s1 1), .int .u64 (wdN s1 2), .int .u64 (wdN s1 3), .slice A1 n1 p1] 27)).alloc (.cells #[.int .i64 o1, .int .u64 (wdN s1 0), .int .u64 (wdN s1 1), .int .u64 (wdN s1 2), .int .u64 (wdN s1 3), .slice A1 n1 p1] 27)) := ((Kept.refl _).alloc _).alloc _
      have HX := Lib.hid (hx.kept K7)
      replace HV := Lib.hid (And.intro ((HV.out.1.gr h3 (by omega)).kept K7) (And.intro HV.out.2.1 (fun (j : Nat) (u : Value) (x : Re) hu hx => ((HV.out.2.2 j u x hu hx).gr h3 (fun hS => by omega)).kept K7)))
      replace H := Lib.hid ((H.out.step h2 h3).kept K7)
      have HB := Lib.hid (six_cells (alloc2' w5 (.cells #[.int .i64 o1, .int .u64 (wdN s1 0), .int .u64 (wdN s1 1), .int .u64 (wdN s1 2), .int .u64 (wdN s1 3), .slice A1 n1 p1] 27) (.cells #[.int .i64 o1, .int .u64 (wdN s1 0), .int .u64 (wdN s1 1), .int .u64 (wdN s1 2), .int .u64 (wdN s1 3), .slice A1 n1 p1] 27)).2)
      have HSZ := Lib.hid (Gr.size h3)
      clear h2 h3 HCALL hx K7
      simp only [re6_form] at HX ⊢
      go_wp2_with (at_builtin; refine wpList_push rfl _ _ rfl rfl HV.out.1 (re6 o1 s1 (.slice A1 n1 p1)) (six_re _ _ _ _ _) (w5.heap.size + 1) rfl HB.out HN.out (by have := HSZ.out; simp; omega) ?_; intro v8 w8 hraw hgr hown)
      have HST := Lib.hid (H.out.grown hgr (fun b hb => by
        have h9 := HO.out b hb
        refine ⟨by omega, by omega, fun q hq => ?_⟩
        rw [List.mem_singleton.1 hq]
        simp only []
        omega))
      have HRW := Lib.hid (Row.push HV.out.1 HV.out.2.1 HV.out.2.2 (u := re6 o1 s1 (.slice A1 n1 p1)) HX.out hrl (fun b hb => (HO.out b hb).2) hraw hgr hown)
      clear H HV HX HB hraw hgr hown
      have HS := Lib.hid (sees_any g s i op 124 w8 HST.out.1)
      cases hb : byteAt s i == some 124 with
      | false =>
        rw [hb] at HS
        have HE : Hid (R = .ok (gather 3 (acc ++ [x])) i) := Lib.hid (by rw [← HUN.out, if_neg (by simpa using hb)])
        clear HUN HM hb
        refine HS.out.mono ?_
        rintro e w9 ⟨rfl, h2⟩
        have H := Lib.hid (HST.out.kept h2)
        have HW := Lib.hid (HRW.out.kept h2)
        clear HST HRW HS h2
        have HG := Lib.hid (gather_any 3 (w.heap.size + 1) _ (acc ++ [x]) w9 HW.out (by have := HL.out; simp; omega))
        obtain ⟨vs2, hv1, -, -⟩ := HW.out
        obtain ⟨A2, cap2, rfl⟩ := hv1.form
        clear hv1 HW
        go_wp2_with fail
        refine HG.out.mono ?_
        rintro e w10 ⟨u, rfl, hx, h2⟩
        obtain ⟨o2, s2, A3, n2, p2, rfl⟩ := hx.form
        have HX := Lib.hid hx
        replace H := Lib.hid (H.out.kept h2)
        clear h2 hx HG
        obtain ⟨⟨d0, d1, d2, d3, d4, d5⟩, g0, g1, g2, g3, g4, g5⟩ := box6 (H.out.blk List.mem_cons_self)
        have HF := Lib.hid (ret_pass H.out HX.out)
        simp only [re6_form, wd_eq] at HF ⊢
        go_wp2_with fail
        refine bodyPost_ret (v := .tuple #[re6 o2 s2 (.slice A3 n2 p2), .int .i64 0]) ?_ rfl ?_
        · simp [results, Try.results17, go_sem, re6_form, d0, d1, d2, d3, d4, d5]
        · rw [HE.out]
          exact ⟨_, rfl, HF.out⟩
      | true =>
        rw [hb] at HS
        obtain ⟨i1, hi1⟩ : ∃ i1, i + 1 = i1 := ⟨_, rfl⟩
        have hii : (i : Int) + 1 = i1 := by omega
        have hib : i1 ≤ s.size := by have := byteAt_lt (beq_iff_eq.1 hb); omega
        have hib2 : i1 ≤ 200 := by omega
        have hlt : j < i1 := by omega
        have HR : Hid (altL G s (acc ++ [x]) i1 = R) := Lib.hid (by rw [← HUN.out, if_pos (by simpa using hb), if_pos hji, hi1])
        clear HUN hb hi1
        refine HS.out.mono ?_
        rintro e w9 ⟨rfl, h2⟩
        have H := Lib.hid (HST.out.kept h2)
        have HW := Lib.hid (HRW.out.kept h2)
        clear HST HRW HS h2
        obtain ⟨⟨c0, c1, c2⟩, f0, f1, f2⟩ := H.out.1.cells
        have HN2 := Lib.hid (H.out.at i1)
        have HW2 := Lib.hid (HW.out.gr ((Gr.refl g w9).set (p := ⟨g, 1, none⟩) (.inl rfl) (.int .i64 i1)) (by omega))
        go_wp2_with fail
        go_roundw
        case rel => exact ⟨i1, acc ++ [x], hib, by simp; have := HL.out; omega, HR.out, HW2.out, HN2.out⟩
        case measure => rw [HM.out, atOf_rd HN2.out.1]; omega
theorem alternative_any (g : Nat) (s : ByteArray) (k op : Nat) (G : Nat → Res Re) (w : World) (h : Rd g s k op w) (hs : s.size ≤ 200) (hk : k ≤ s.size) (hG : ∀ k, k < s.size → Fw s k (G k))
    (HC : ∀ k, k < s.size → ∀ w, Rd g s k op w → Calls Try.prog 47 #[ptr g] w (RePost g s op (G k) w)) : Calls Try.prog 17 #[ptr g] w (RePost g s op (altL G s [] k) w) :=
  alternative_go g s k op G w h hs hk (fun k hk => seqL_fz G s hG _ [] k (Nat.le_refl _) hk) (fun k hk w h => sequence_any g s k op G w h hs hk hG HC) _ (Lib.hid rfl)
/-- The whole: d more brackets may be opened. -/
theorem alt_all : ∀ (d g : Nat) (s : ByteArray) (k op : Nat) (w : World), Rd g s k op w → s.size ≤ 200 → k ≤ s.size → op + d = 20 → Calls Try.prog 17 #[ptr g] w (RePost g s op (altL (grp s d) s [] k) w)
  | 0, g, s, k, op, w, h, hs, hk, hop => alternative_any g s k op (grp s 0) w h hs hk (grp_fw s 0) fun k hk w h => group_any 0 g s k op w h hs hk hop (fun d' hd => by omega)
  | d + 1, g, s, k, op, w, h, hs, hk, hop => alternative_any g s k op (grp s (d + 1)) w h hs hk (grp_fw s (d + 1)) fun k hk w h => group_any (d + 1) g s k op w h hs hk hop (fun d' hd w h => by
      have : d' = d := by omega
      subst this
      exact alt_all d' g s (k + 1) (op + 1) w h hs (by omega) (by omega))
end Go.Proofs.Ytpnmcinbohdmhaa
