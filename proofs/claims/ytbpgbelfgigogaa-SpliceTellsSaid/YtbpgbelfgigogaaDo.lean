/-
  What splice.Do does, on values and memory: its one statement draws its order.
-/
import Derived.Test.YtbpgbelfgigogaaFns
namespace Go.Proofs.Ytbpgbelfgigogaa
open Go Go.RowKit Kit
set_option maxHeartbeats 400000 in
theorem do_any (A : Option Addr) (n c : Nat) (at' del : Int) (v : Value) (b l : List UInt8) (w : World) (hb : Bs w (.slice A n c) b) (hv : Bs w v l) (hbl : b.length ≤ 100000000000000) (hll : l.length ≤ 10000000000000) :
    Calls Try.prog 11 #[.slice A n c, .agg #[.int .i64 at', .int .i64 del, v]] w fun e w' => ∃ v', e = .returned v' ∧ Bs w' v' (b.take (cutI at' b.length).toNat ++ l ++ b.drop ((cutI at' b.length).toNat + (cutI del (b.length - cutI at' b.length)).toNat)) ∧ Kept w w' := by
  obtain ⟨A1, c1, rfl⟩ := hv.form
  obtain ⟨hn, hnc, hcm⟩ := hb.len
  subst hn
  have HR := fun w' : World => Lib.hid (reach_any b.length at' del (.slice A1 l.length c1) w' (by omega) (by omega))
  have hp := cutI_bd at' b.length
  generalize cutI at' b.length = p at *
  have hd := cutI_bd del (b.length - p)
  generalize cutI del (b.length - p) = d at *
  have hp2 := hp.2 (by omega)
  have hd2 := hd.2 (by omega)
  obtain ⟨p, rfl⟩ := Int.eq_ofNat_of_zero_le hp.1
  obtain ⟨d, rfl⟩ := Int.eq_ofNat_of_zero_le hd.1
  clear hp hd
  simp only [Int.toNat_natCast]
  go_enter Try.func11, Try.ntmps11
  go_wp2_with fail
  refine (HR _).out.mono ?_
  rintro e w1 ⟨rfl, hk1⟩
  go_wp2_with fail
  have hcut1 := hb.cut (lo := 0) (hi := p) (m := c) (by omega) (by omega) (by omega) (by omega)
  have hcut2 := hb.cut (lo := p + d) (hi := b.length) (m := c) (by omega) (by omega) (by omega) (by omega)
  obtain ⟨⟨hq0, hq1, hc2⟩, hq2⟩ := box3 (Kept.blk hk1 (blk_new w _))
  clear hq0 hq1 hq2
  refine wp_region_plan none (vat [isv (.slice A b.length c), isv (.int .i64 p), isv (.slice (if c = 0 then A else A.map (·.add 0)) (p - 0) (c - 0)), isv (.pointer (some ⟨w.heap.size, 2, none⟩)), isv (.slice A1 l.length c1), isv (.slice A b.length c), isv (.int .i64 p), isv (.int .i64 d), isv (.int .i64 (p + d)),
    isv (.slice (if c = p + d then A else A.map (·.add (p + d))) (b.length - (p + d)) (c - (p + d))), fun u w' => ∃ g, u = .slice (some ⟨g, 0, none⟩) 3 3 ∧ w'.heap[g]? = some (.cells #[.slice (if c = 0 then A else A.map (·.add 0)) (p - 0) (c - 0), .slice A1 l.length c1, .slice (if c = p + d then A else A.map (·.add (p + d))) (b.length - (p + d)) (c - (p + d))] 22 (0, 0)),
    fun u w' => Bs w' u (b.take p ++ l ++ b.drop (p + d)), isv undef]) (fun u w' => Bs w' u (b.take p ++ l ++ b.drop (p + d)) ∧ w1.drew.grownBy w' none)
    [([(0, none)], none), ([(5, none)], none), ([(14, some 0), (15, some 1)], none), ([(3, none)], none), ([(17, some 3)], none), ([(0, none)], none), ([(5, none)], none), ([(6, none)], none), ([(20, some 6), (21, some 7)], none), ([(19, some 5), (22, some 8)], none), ([(16, some 2), (18, some 4), (23, some 9)], none), ([(24, some 10)], none), ([(25, some 11)], none)]
    (by kernel_rfl) 26 rfl (by kernel_rfl) (by kernel_rfl) (by decide) ?st ?steps ?fin
  case st =>
    refine stays_vat _ _ fun q hq => ?_
    simp only [List.mem_cons, List.not_mem_nil, or_false] at hq
    rcases hq with rfl | rfl | rfl | rfl | rfl | rfl | rfl | rfl | rfl | rfl | rfl | rfl | rfl
    all_goals first | exact stays_isv _ _ | skip
    · rintro u w w' hg ⟨g, rfl, h⟩; exact ⟨g, rfl, (Kept.of_grown hg).blk h⟩
    · intro u w w' hg h; exact h.keep (Kept.of_grown hg)
  case fin =>
    rintro a o u w' hL ho ⟨hu, hg⟩
    simp at ho
    subst ho
    rename_i K hK
    exact hK _ _ (ret_slot (d := 4) rfl (by rw [hL.tsize]; exact (by omega : 4 < 26)) hL.defers ⟨u, rfl, hu, (((Kept.refl _).alloc _).trans hk1).trans ((Kept.drew (Kept.refl _)).trans (Kept.of_grown hg))⟩)
  case steps =>
    have hkw : Kept w w1 := ((Kept.refl _).alloc _).trans hk1
    refine ⟨?_, ?_, ?_, ?_, ?_, ?_, ?_, ?_, ?_, ?_, ?_, ?_, ?_⟩
    all_goals
      intro ρ w2 hg hn hc hf hgl
      simp only [Need, vat, List.getD_cons_zero, List.getD_cons_succ, isv, and_true] at hn ⊢
    all_goals try (simp [Act.eval] at hn; simp [wantP, execOp, Ups, hn, grown_refl, go_sem]; done)
    · obtain ⟨h1, h2⟩ := hn
      simp only [wantP, if_true]
      unfold execOp
      have : (p : Int) ≤ c := by omega
      clear hb hcut1 hcut2 hv
      go_simp
      exact ⟨by simp, grown_refl _ _⟩
    · have hcw := hg.cell (a := ⟨w.heap.size, 2, none⟩) hc2 (by simp)
      clear hb hcut1 hcut2 hv
      simp only [wantP, if_true]
      unfold execOp
      go_simp
      exact ⟨rfl, grown_refl _ _⟩
    · obtain ⟨h1, h2⟩ := hn
      clear hb hcut1 hcut2 hv
      simp only [wantP, if_true]
      unfold execOp
      go_simp
      exact ⟨by congr 1; rw [IntWalk.i64_in _ (by omega)], grown_refl _ _⟩
    · obtain ⟨h1, h2⟩ := hn
      clear hb hcut1 hcut2 hv
      simp only [wantP, if_true]
      unfold execOp
      have : 0 ≤ (p : Int) + d := by omega
      have : (p : Int) + d ≤ b.length := by omega
      go_simp
      refine ⟨?_, grown_refl _ _⟩
      rw [show ((p : Int) + d).toNat = p + d from by omega]
    · obtain ⟨h1, h2, h3⟩ := hn
      clear hb hcut1 hcut2 hv
      simp only [wantP, if_true]
      unfold execOp
      go_simp
      exact ⟨⟨w2.heap.size, rfl, blk_new _ _⟩, (Kept.grownBy ((Kept.refl _).alloc _) _)⟩
    · obtain ⟨g, h1, h2⟩ := hn
      have hk2 : Kept w w2 := Kept.trans hkw (Kept.trans (Kept.drew (Kept.refl _)) (Kept.of_grown hg))
      simp only [Nat.sub_zero, List.drop_zero] at hcut1 h2
      rw [List.take_of_length_le (Nat.le_refl _)] at hcut2
      have H1 := Lib.hid (hcut1.keep hk2)
      have H2 := Lib.hid (hcut2.keep hk2)
      have H3 := Lib.hid (hv.keep hk2)
      have H4 := Lib.hid h2
      clear hb hcut1 hcut2 hv h2
      simp only [wantP, if_true]
      unfold execOp
      go_simp
      have hz : p + (l.length + (b.length - (p + d))) ≤ 140737488355328 := by omega
      refine (concat_any g 3 [.slice A p c, .slice A1 l.length c1, .slice (if c = p + d then A else A.map (·.add (p + d))) (b.length - (p + d)) (c - (p + d))] [b.take p, l, b.drop (p + d)] w2 rfl (by omega) rfl ?_ ?_ ?_).mono ?_
      rotate_right
      · rintro e w3 ⟨v', rfl, hb3, hk3⟩
        exact ⟨v', rfl, by simpa using hb3, hk3.grownBy _⟩
      · intro j v hj
        have h4 := H4.out
        simp only [Addr.add_zero', Option.map_id', ite_self] at h4
        rw [blk_cell h4]
        simpa using hj
      · intro j v l' hj hl'
        have h1 := H1.out
        simp only [Addr.add_zero', Option.map_id', ite_self] at h1
        match j, hj, hl' with
        | 0, hj, hl' => simp at hj hl'; subst hj hl'; exact h1
        | 1, hj, hl' => simp at hj hl'; subst hj hl'; exact H3.out
        | 2, hj, hl' => simp at hj hl'; subst hj hl'; exact H2.out
        | j + 3, hj, hl' => simp at hj
      · simp; omega
    · simp only [wantP, if_true]
      unfold execOp
      clear hb hcut1 hcut2 hv
      have HN := Lib.hid hn
      clear hn
      go_simp
      exact ⟨by simpa using HN.out, hg⟩
end Go.Proofs.Ytbpgbelfgigogaa
