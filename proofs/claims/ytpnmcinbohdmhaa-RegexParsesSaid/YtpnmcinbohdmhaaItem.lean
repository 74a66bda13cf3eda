/-
  What regex.item reads: a byte, or two with - between. Conditions: the text is no longer than 200 bytes, and the reader stands within it.
-/
import Derived.Test.YtpnmcinbohdmhaaLit
set_option linter.unusedSimpArgs false
namespace Go.Proofs.Ytpnmcinbohdmhaa
open Go Go.RowKit Kit
def ItemPost (g : Nat) (s : ByteArray) (op : Nat) (r : Res (UInt8 × UInt8)) (w : World) (e : Ending) (w' : World) : Prop :=
  match r with
  | .ok ab j => e = .returned (.tuple #[.agg #[.int .u8 ab.1.toNat, .int .u8 ab.2.toNat], .int .i64 0]) ∧ Rd g s j op w' ∧ Gr g w w'
  | .err er j => e = .returned (.tuple #[.agg #[.int .u8 0, .int .u8 0], .int .i64 er]) ∧ Rd g s j op w' ∧ Gr g w w'
theorem ret_item {w W : World} {g k op : Nat} {s : ByteArray} (h : St g s k op [(w.heap.size, (.cells #[.int .u8 0, .int .u8 0] 74))] w W) (a b : Value) :
    ((W.setCell ⟨w.heap.size, 0, none⟩ a).setCell ⟨w.heap.size, 1, none⟩ b).heap[w.heap.size]? = some (.cells #[a, b] 74 (0, 0)) ∧ Rd g s k op ((W.setCell ⟨w.heap.size, 0, none⟩ a).setCell ⟨w.heap.size, 1, none⟩ b) ∧ Gr g w ((W.setCell ⟨w.heap.size, 0, none⟩ a).setCell ⟨w.heap.size, 1, none⟩ b) := by
  have hb := h.blk List.mem_cons_self
  have hn := h.ne List.mem_cons_self
  have h1 := h.put (p := ⟨w.heap.size, 0, none⟩) (Nat.le_refl _) hn a
  have h2 := h1.put (p := ⟨w.heap.size, 1, none⟩) (Nat.le_refl _) hn b
  exact ⟨by simp [World.setCell, Array.getElem?_modify, hb], h2.1, h2.2.2⟩
set_option maxHeartbeats 2000000 in
theorem item_e1 (g : Nat) (s : ByteArray) (k op er j : Nat) (w : World) (h : Rd g s k op w) (hs : s.size ≤ 200) (hk : k ≤ s.size) (h1 : litP s k = .err er j) (her : 0 < er ∧ er ≤ 11) : Calls Try.prog 59 #[ptr g] w (ItemPost g s op (.err er j) w) := by
  unfold ItemPost
  have H := Lib.hid ((St.start h).alloc (.cells #[.int .u8 0, .int .u8 0] 74))
  have HL := Lib.hid (literal_any g s k op (w.alloc (.cells #[.int .u8 0, .int .u8 0] 74)) H.out.1 hs hk)
  rw [h1] at HL
  have hgl := h.lt
  clear h h1
  unfold ptr at *
  go_enter Try.func59, Try.ntmps59
  go_wp2_with fail
  refine HL.out.mono ?_
  rintro e w1 ⟨rfl, h2, h3⟩
  replace H := Lib.hid (H.out.step h2 h3)
  clear HL h2 h3
  obtain ⟨⟨c0, c1, -⟩, f0, f1, -⟩ := H.out.1.cells
  obtain ⟨⟨d0, d1⟩, g0, g1⟩ := box2 (H.out.blk List.mem_cons_self)
  have hne : ¬ (er : Int) = 0 := by omega
  clear hs hk
  have HF := Lib.hid (ret_item H.out (.int .u8 (0 : Nat)) (.int .u8 (0 : Nat)))
  go_wp2_with fail
  refine bodyPost_ret (v := .tuple #[.agg #[.int .u8 (0 : Nat), .int .u8 (0 : Nat)], .int .i64 er]) ?_ rfl ⟨rfl, HF.out.2⟩
  simp [results, Try.results59, go_sem, d0, d1]
set_option maxHeartbeats 2000000 in
theorem item_one (g : Nat) (s : ByteArray) (k op j : Nat) (a : UInt8) (w : World) (h : Rd g s k op w) (hs : s.size ≤ 200) (hk : k ≤ s.size) (h1 : litP s k = .ok a j) (hb : betw s j = false) : Calls Try.prog 59 #[ptr g] w (ItemPost g s op (.ok (a, a) j) w) := by
  unfold ItemPost
  have H := Lib.hid ((St.start h).alloc (.cells #[.int .u8 0, .int .u8 0] 74))
  have HL := Lib.hid (literal_any g s k op (w.alloc (.cells #[.int .u8 0, .int .u8 0] 74)) H.out.1 hs hk)
  rw [h1] at HL
  have hgl := h.lt
  clear h h1
  unfold ptr at *
  go_enter Try.func59, Try.ntmps59
  go_wp2_with fail
  refine HL.out.mono ?_
  rintro e w1 ⟨rfl, h2, h3⟩
  replace H := Lib.hid (H.out.step h2 h3)
  clear HL h2 h3
  have HB := Lib.hid (between_any g s j op w1 H.out.1 hs)
  rw [hb] at HB
  clear hb
  go_wp2_with fail
  refine HB.out.mono ?_
  rintro e w2 ⟨rfl, h2⟩
  replace H := Lib.hid (H.out.kept h2)
  clear h2
  obtain ⟨⟨c0, c1, -⟩, f0, f1, -⟩ := H.out.1.cells
  obtain ⟨⟨d0, d1⟩, g0, g1⟩ := box2 (H.out.blk List.mem_cons_self)
  have HF := Lib.hid (ret_item H.out (.int .u8 (a.toNat : Nat)) (.int .u8 (a.toNat : Nat)))
  go_wp2_with fail
  refine bodyPost_ret (v := .tuple #[.agg #[.int .u8 (a.toNat : Nat), .int .u8 (a.toNat : Nat)], .int .i64 0]) ?_ rfl ⟨rfl, HF.out.2⟩
  simp [results, Try.results59, go_sem, d0, d1]
set_option maxHeartbeats 2000000 in
theorem item_e2 (g : Nat) (s : ByteArray) (k op j : Nat) (a : UInt8) (w : World) (h : Rd g s k op w) (hs : s.size ≤ 200) (hk : k ≤ s.size) (h1 : litP s k = .ok a j) (hb : betw s j = true) (hj : j + 1 ≤ s.size) (er i : Nat) (h4 : litP s (j + 1) = .err er i) (her : 0 < er ∧ er ≤ 11) : Calls Try.prog 59 #[ptr g] w (ItemPost g s op (.err er i) w) := by
  unfold ItemPost
  have H := Lib.hid ((St.start h).alloc (.cells #[.int .u8 0, .int .u8 0] 74))
  have HL := Lib.hid (literal_any g s k op (w.alloc (.cells #[.int .u8 0, .int .u8 0] 74)) H.out.1 hs hk)
  rw [h1] at HL
  have hgl := h.lt
  clear h h1
  unfold ptr at *
  go_enter Try.func59, Try.ntmps59
  go_wp2_with fail
  refine HL.out.mono ?_
  rintro e w1 ⟨rfl, h2, h3⟩
  replace H := Lib.hid (H.out.step h2 h3)
  clear HL h2 h3
  have HB := Lib.hid (between_any g s j op w1 H.out.1 hs)
  rw [hb] at HB
  clear hb
  go_wp2_with fail
  refine HB.out.mono ?_
  rintro e w2 ⟨rfl, h2⟩
  replace H := Lib.hid (H.out.kept h2)
  clear h2
  obtain ⟨⟨c0, c1, -⟩, f0, f1, -⟩ := H.out.1.cells
  go_wp2_with fail
  rw [show ((j : Int) + 1) = ((j + 1 : Nat) : Int) from rfl]
  replace H := Lib.hid (H.out.at (j + 1))
  generalize w2.setCell _ _ = w3 at H ⊢
  have HL := Lib.hid (literal_any g s (j + 1) op w3 H.out.1 hs hj)
  rw [h4] at HL
  clear h4 c0 c1 f0 f1
  obtain ⟨⟨c0, c1, -⟩, f0, f1, -⟩ := H.out.1.cells
  go_wp2_with fail
  refine HL.out.mono ?_
  rintro e w4 ⟨rfl, h2, h3⟩
  replace H := Lib.hid (H.out.step h2 h3)
  clear HL h2 h3 c0 c1 f0 f1
  obtain ⟨⟨c0, c1, -⟩, f0, f1, -⟩ := H.out.1.cells
  obtain ⟨⟨d0, d1⟩, g0, g1⟩ := box2 (H.out.blk List.mem_cons_self)
  have hne : ¬ (er : Int) = 0 := by omega
  have HF := Lib.hid (ret_item H.out (.int .u8 (0 : Nat)) (.int .u8 (0 : Nat)))
  go_wp2_with fail
  refine bodyPost_ret (v := .tuple #[.agg #[.int .u8 (0 : Nat), .int .u8 (0 : Nat)], .int .i64 er]) ?_ rfl ⟨rfl, HF.out.2⟩
  simp [results, Try.results59, go_sem, d0, d1]
set_option maxHeartbeats 2000000 in
theorem item_two (g : Nat) (s : ByteArray) (k op j : Nat) (a : UInt8) (w : World) (h : Rd g s k op w) (hs : s.size ≤ 200) (hk : k ≤ s.size) (h1 : litP s k = .ok a j) (hb : betw s j = true) (hj : j + 1 ≤ s.size) (b : UInt8) (i : Nat) (h4 : litP s (j + 1) = .ok b i) (hab : ¬ b.toNat < a.toNat) : Calls Try.prog 59 #[ptr g] w (ItemPost g s op (.ok (a, b) i) w) := by
  unfold ItemPost
  have H := Lib.hid ((St.start h).alloc (.cells #[.int .u8 0, .int .u8 0] 74))
  have HL := Lib.hid (literal_any g s k op (w.alloc (.cells #[.int .u8 0, .int .u8 0] 74)) H.out.1 hs hk)
  rw [h1] at HL
  have hgl := h.lt
  clear h h1
  unfold ptr at *
  go_enter Try.func59, Try.ntmps59
  go_wp2_with fail
  refine HL.out.mono ?_
  rintro e w1 ⟨rfl, h2, h3⟩
  replace H := Lib.hid (H.out.step h2 h3)
  clear HL h2 h3
  have HB := Lib.hid (between_any g s j op w1 H.out.1 hs)
  rw [hb] at HB
  clear hb
  go_wp2_with fail
  refine HB.out.mono ?_
  rintro e w2 ⟨rfl, h2⟩
  replace H := Lib.hid (H.out.kept h2)
  clear h2
  obtain ⟨⟨c0, c1, -⟩, f0, f1, -⟩ := H.out.1.cells
  go_wp2_with fail
  rw [show ((j : Int) + 1) = ((j + 1 : Nat) : Int) from rfl]
  replace H := Lib.hid (H.out.at (j + 1))
  generalize w2.setCell _ _ = w3 at H ⊢
  have HL := Lib.hid (literal_any g s (j + 1) op w3 H.out.1 hs hj)
  rw [h4] at HL
  clear h4 c0 c1 f0 f1
  obtain ⟨⟨c0, c1, -⟩, f0, f1, -⟩ := H.out.1.cells
  go_wp2_with fail
  refine HL.out.mono ?_
  rintro e w4 ⟨rfl, h2, h3⟩
  replace H := Lib.hid (H.out.step h2 h3)
  clear HL h2 h3 c0 c1 f0 f1
  obtain ⟨⟨c0, c1, -⟩, f0, f1, -⟩ := H.out.1.cells
  obtain ⟨⟨d0, d1⟩, g0, g1⟩ := box2 (H.out.blk List.mem_cons_self)
  have hne : ¬ (b.toNat : Int) < a.toNat := by omega
  have HF := Lib.hid (ret_item H.out (.int .u8 (a.toNat : Nat)) (.int .u8 (b.toNat : Nat)))
  go_wp2_with fail
  refine bodyPost_ret (v := .tuple #[.agg #[.int .u8 (a.toNat : Nat), .int .u8 (b.toNat : Nat)], .int .i64 0]) ?_ rfl ⟨rfl, HF.out.2⟩
  simp [results, Try.results59, go_sem, d0, d1]
set_option maxHeartbeats 2000000 in
theorem item_low (g : Nat) (s : ByteArray) (k op j : Nat) (a : UInt8) (w : World) (h : Rd g s k op w) (hs : s.size ≤ 200) (hk : k ≤ s.size) (h1 : litP s k = .ok a j) (hb : betw s j = true) (hj : j + 1 ≤ s.size) (b : UInt8) (i : Nat) (h4 : litP s (j + 1) = .ok b i) (hab : b.toNat < a.toNat) : Calls Try.prog 59 #[ptr g] w (ItemPost g s op (.err 2 (j + 1)) w) := by
  unfold ItemPost
  have H := Lib.hid ((St.start h).alloc (.cells #[.int .u8 0, .int .u8 0] 74))
  have HL := Lib.hid (literal_any g s k op (w.alloc (.cells #[.int .u8 0, .int .u8 0] 74)) H.out.1 hs hk)
  rw [h1] at HL
  have hgl := h.lt
  clear h h1
  unfold ptr at *
  go_enter Try.func59, Try.ntmps59
  go_wp2_with fail
  refine HL.out.mono ?_
  rintro e w1 ⟨rfl, h2, h3⟩
  replace H := Lib.hid (H.out.step h2 h3)
  clear HL h2 h3
  have HB := Lib.hid (between_any g s j op w1 H.out.1 hs)
  rw [hb] at HB
  clear hb
  go_wp2_with fail
  refine HB.out.mono ?_
  rintro e w2 ⟨rfl, h2⟩
  replace H := Lib.hid (H.out.kept h2)
  clear h2
  obtain ⟨⟨c0, c1, -⟩, f0, f1, -⟩ := H.out.1.cells
  go_wp2_with fail
  rw [show ((j : Int) + 1) = ((j + 1 : Nat) : Int) from rfl]
  replace H := Lib.hid (H.out.at (j + 1))
  generalize w2.setCell _ _ = w3 at H ⊢
  have HL := Lib.hid (literal_any g s (j + 1) op w3 H.out.1 hs hj)
  rw [h4] at HL
  clear h4 c0 c1 f0 f1
  obtain ⟨⟨c0, c1, -⟩, f0, f1, -⟩ := H.out.1.cells
  go_wp2_with fail
  refine HL.out.mono ?_
  rintro e w4 ⟨rfl, h2, h3⟩
  replace H := Lib.hid (H.out.step h2 h3)
  clear HL h2 h3 c0 c1 f0 f1
  obtain ⟨⟨c0, c1, -⟩, f0, f1, -⟩ := H.out.1.cells
  obtain ⟨⟨d0, d1⟩, g0, g1⟩ := box2 (H.out.blk List.mem_cons_self)
  have hne : (b.toNat : Int) < a.toNat := by omega
  have HH := Lib.hid (H.out.at (j + 1))
  have HF := Lib.hid (ret_item HH.out (.int .u8 (0 : Nat)) (.int .u8 (0 : Nat)))
  go_wp2_with fail
  refine bodyPost_ret (v := .tuple #[.agg #[.int .u8 (0 : Nat), .int .u8 (0 : Nat)], .int .i64 2]) ?_ rfl ⟨rfl, HF.out.2⟩
  simp [results, Try.results59, go_sem, d0, d1]
theorem item_any (g : Nat) (s : ByteArray) (k op : Nat) (w : World) (h : Rd g s k op w) (hs : s.size ≤ 200) (hk : k ≤ s.size) : Calls Try.prog 59 #[ptr g] w (ItemPost g s op (itemP s k) w) := by
  have hf := litP_fw s k hk
  unfold itemP
  cases h1 : litP s k with
  | err er j => rw [h1] at hf; exact item_e1 g s k op er j w h hs hk h1 ⟨hf.1, hf.2.1⟩
  | ok a j =>
    cases hb : betw s j with
    | false =>
      simp only [hb, Bool.false_eq_true, if_false]
      exact item_one g s k op j a w h hs hk h1 hb
    | true =>
      have hj : j + 1 ≤ s.size := by
        unfold betw at hb
        simp at hb
        omega
      have hf2 := litP_fw s (j + 1) hj
      simp only [hb, if_true]
      cases h4 : litP s (j + 1) with
      | err er i => rw [h4] at hf2; exact item_e2 g s k op j a w h hs hk h1 hb hj er i h4 ⟨hf2.1, hf2.2.1⟩
      | ok b i =>
        simp only
        by_cases hab : b < a
        · rw [if_pos hab]
          exact item_low g s k op j a w h hs hk h1 hb hj b i h4 (UInt8.lt_iff_toNat_lt.1 hab)
        · rw [if_neg hab]
          exact item_two g s k op j a w h hs hk h1 hb hj b i h4 (fun h => hab (UInt8.lt_iff_toNat_lt.2 h))
end Go.Proofs.Ytpnmcinbohdmhaa
