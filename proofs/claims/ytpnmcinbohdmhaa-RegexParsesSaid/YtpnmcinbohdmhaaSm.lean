/-
  What the small functions of package regex do: which repeat a byte is, whether it is a mark, what some parts make. Conditions: no more parts than 100000.
-/
import Derived.Test.YtpnmcinbohdmhaaCls
import Derived.Test.YtpnmcinbohdmhaaRow0
import Derived.Lib.Bytealg
set_option linter.unusedSimpArgs false
namespace Go.Proofs.Ytpnmcinbohdmhaa
open Go Go.RowKit Kit
theorem repeat_any (c : UInt8) (w : World) : Calls Try.prog 36 #[.int .u8 c.toNat] w fun e w' => e = .returned (.int .i64 (repOp c)) ∧ w = w' := by
  have e1 : ∀ d : UInt8, (c = d) = (c.toNat = d.toNat) := fun d => propext UInt8.toNat_inj.symm
  unfold repOp
  simp only [e1]
  generalize c.toNat = n
  by_cases h1 : n = 42
  · subst h1
    go_enter Try.func36, Try.ntmps36
    go_wp2
    go_ret
    exact ⟨rfl, rfl⟩
  by_cases h2 : n = 43
  · subst h2
    go_enter Try.func36, Try.ntmps36
    go_wp2
    go_ret
    exact ⟨rfl, rfl⟩
  by_cases h3 : n = 63
  · subst h3
    go_enter Try.func36, Try.ntmps36
    go_wp2
    go_ret
    exact ⟨rfl, rfl⟩
  · have i1 : ¬ (n : Int) = 42 := by omega
    have i2 : ¬ (n : Int) = 43 := by omega
    have i3 : ¬ (n : Int) = 63 := by omega
    have e : (if n = (42 : UInt8).toNat then 4 else if n = (43 : UInt8).toNat then 5 else if n = (63 : UInt8).toNat then 6 else 0) = 0 := by
      rw [if_neg (by simpa using h1), if_neg (by simpa using h2), if_neg (by simpa using h3)]
    rw [e]
    go_enter Try.func36, Try.ntmps36
    go_wp2
    go_ret
    exact ⟨rfl, rfl⟩
theorem mark_ge (c : UInt8) : (0 ≤ Lib.indexByte [124, 42, 43, 63, 40, 41, 91, 93] c) = (marks.contains c = true) := by
  have : ∀ c : Fin 256, decide (0 ≤ Lib.indexByte [124, 42, 43, 63, 40, 41, 91, 93] (UInt8.ofNat c.val)) = marks.contains (UInt8.ofNat c.val) := by decide +kernel
  have h := this ⟨c.toNat, c.toNat_lt⟩
  simp only [UInt8.ofNat_toNat] at h
  rw [← h]
  simp
theorem index_any (s : ByteArray) (c : Int) (w : World) : Calls Try.prog 49 #[.string s, .int .u8 c] w fun e w' => e = .returned (.int .i64 (Lib.indexByte s.data.toList c.toNat.toUInt8)) ∧ w = w' := by
  have h : Calls Try.prog 61 #[.string s, .int .u8 c] w fun e w' => e = .returned (.int .i64 (Lib.indexByte s.data.toList c.toNat.toUInt8)) ∧ w = w' := by
    go_enter Try.func61, Try.ntmps61
    go_wp2
    rw [run_callFunc_extern Try.func66 (by kernel_rfl) (by kernel_rfl) (by kernel_rfl) (e := Extern.BytealgIndexByte.indexByte) (by kernel_rfl), Lib.run_indexByteString]
    simp only [Result.andThen]
    rw [Oper.upon_value]
    go_wp2
    go_ret
    exact ⟨rfl, rfl⟩
  go_enter Try.func49, Try.ntmps49
  go_wp2_with fail
  refine h.mono ?_
  rintro e w' ⟨rfl, rfl⟩
  go_wp2_with fail
  go_ret
  exact ⟨rfl, rfl⟩
theorem re6_form (op : Nat) (x : BitVec 256) (sl : Value) : re6 op x sl = .agg #[.int .i64 op, .int .u64 (wdN x 0), .int .u64 (wdN x 1), .int .u64 (wdN x 2), .int .u64 (wdN x 3), sl] := rfl
theorem zre_eq : zre = re6 0 0#256 (.slice none 0 0) := by unfold zre re6; simp only [wd_zero]; rfl
set_option maxHeartbeats 1000000 in
theorem gather_any (op base : Nat) (v : Value) (xs : List Re) (w : World) (h : Row base w v xs) (hn : xs.length ≤ 100000) : Calls Try.prog 25 #[.int .i64 op, v] w fun e w' => ∃ u, e = .returned u ∧ ReAt (base ≤ ·) w' u (gather op xs) ∧ Kept w w' := by
  have HR := Lib.hid h
  obtain ⟨vs, h1, h2, h3⟩ := h
  match xs, h2, hn, h3, HR with
  | [], h2, hn, h3, HR =>
    obtain ⟨A, cap, rfl⟩ := h1.form
    have h0 : vs.length = 0 := h2
    rw [h0]
    clear h1 h2 h3 h0
    go_enter Try.func25, Try.ntmps25
    go_wp2
    refine bodyPost_ret (v := zre) ?_ rfl ⟨_, rfl, ?_, ?_⟩
    · simp [results, Try.results25, go_sem, zre]
    · rw [zre_eq]; exact ReAt.leaf _ _ _ _
    · exact (Kept.refl _).alloc _
  | [x], h2, hn, h3, HR =>
    obtain ⟨u0, hu0⟩ : ∃ u, vs[0]? = some u := ⟨vs[0]'(by rw [h2]; simp), List.getElem?_eq_getElem _⟩
    obtain ⟨b, cap, e, hc1, hc2, hb, hcell⟩ := h1.cell 0 u0 hu0
    have h0 : vs.length = 1 := h2
    obtain ⟨op', s', A', n', cap2, e6⟩ := h1.2 _ (List.mem_of_getElem? hu0)
    have hx := Lib.hid ((h3 0 u0 x hu0 rfl).weak (S' := (base ≤ ·)) fun k _ hS => hS.1)
    rw [e6] at hx
    rw [e6] at hcell
    subst e
    rw [h0] at hc1 ⊢
    have c0 := hcell 0 _ (by omega) rfl
    have c1 := hcell 1 _ (by omega) rfl
    have c2 := hcell 2 _ (by omega) rfl
    have c3 := hcell 3 _ (by omega) rfl
    have c4 := hcell 4 _ (by omega) rfl
    have c5 := hcell 5 _ (by omega) rfl
    have hbl := World.block_lt_of_cell? w _ c0
    simp only [Nat.zero_mul, Nat.zero_add, wd_eq] at c0 c1 c2 c3 c4 c5 hbl
    clear h1 h2 h3 h0 hcell hu0 e6
    go_enter Try.func25, Try.ntmps25
    go_wp2
    refine bodyPost_ret (v := re6 op' s' (.slice A' n' cap2)) ?_ rfl ⟨_, rfl, hx.out.kept ?_, ?_⟩
    · simp [results, Try.results25, go_sem, re6_form]
    · exact (Kept.refl _).alloc _
    · exact (Kept.refl _).alloc _
  | x :: y :: r, h2, hn, h3, HR =>
    have hk := Lib.hid (HR.out.kids (by simp) op)
    obtain ⟨A, cap, rfl⟩ := h1.form
    have h0 : vs.length = r.length + 2 := by rw [h2]; simp
    rw [h0] at hk ⊢
    generalize hm : r.length + 2 = m at hk ⊢
    have hi1 : ¬ (m : Int) = 0 := by omega
    have hi2 : ¬ (m : Int) = 1 := by omega
    clear h1 h2 h3 h0 hm HR
    go_enter Try.func25, Try.ntmps25
    go_wp2
    refine bodyPost_ret (v := re6 op 0#256 (.slice A m cap)) ?_ rfl ⟨_, rfl, hk.out.kept ?_, ?_⟩
    · simp [results, Try.results25, go_sem, re6, wd_zero]
    · exact (Kept.refl _).alloc _
    · exact (Kept.refl _).alloc _
end Go.Proofs.Ytpnmcinbohdmhaa
