/-
  What Show says of a set of one byte. Conditions: none.
-/
import Derived.Test.YtpnmcinbohdmhaaShow2
set_option linter.unusedSimpArgs false
namespace Go.Proofs.Ytpnmcinbohdmhaa
open Go Go.RowKit Kit
def wkOf (B : Nat) (w : World) : Nat := match w.cell? ⟨B, 1, none⟩ with | some (.slice _ n _) => n | _ => 0
/-- The writer: its work ahead, or its text. -/
def RunSt (B A q cap : Nat) (T : List UInt8) (sl : Value) (X : BitVec 256) (w wr : World) : Prop :=
  Gr B w wr ∧ A ≠ B ∧ wr.heap[A]? = some (.cells #[.int .i64 1, .int .u64 (wdN X 0), .int .u64 (wdN X 1), .int .u64 (wdN X 2), .int .u64 (wdN X 3), sl] 27 (0, 0)) ∧
  ((wr.heap[B]? = some (.cells #[.slice none 0 0, .slice (some ⟨q, 0, none⟩) 1 cap] 57 (0, 0)) ∧ 1 ≤ cap ∧ q ≠ B ∧ wr.cell? ⟨q, 0, none⟩ = some (.pointer (some ⟨A, 0, none⟩)) ∧ wr.cell? ⟨q, 1, none⟩ = some (.string ⟨#[]⟩)) ∨
   (∃ A1 n1 c1 A2 c2, wr.heap[B]? = some (.cells #[.slice A1 n1 c1, .slice A2 0 c2] 57 (0, 0)) ∧ Bs wr (.slice A1 n1 c1) T))
set_option maxRecDepth 100000 in
set_option maxHeartbeats 4000000 in
theorem run_any (X : BitVec 256) (c : UInt8) (hX : ∀ i, X.getLsbD i = decide (i = c.toNat)) (A B q cap : Nat) (sl : Value) (w : World) (h : RunSt B A q cap (showT c).data.toList sl X w w) : Calls Try.prog 22 #[.pointer (some ⟨B, 0, none⟩)] w fun e w' => e = .returned (.string (showT c)) ∧ Gr B w w' := by
  have HX := Lib.hid hX
  have HI := Lib.hid h
  clear hX h
  go_enter Try.func22, Try.ntmps22
  go_wp2
  go_loopw [3, 4] (fun _ _ wr => RunSt B A q cap (showT c).data.toList sl X w wr) (fun _ _ wr => wkOf B wr)
  case atStart => exact HI.out
  case round =>
    clear HI
    obtain ⟨hg, hAB, ha, h0 | ⟨A1, n1, c1, A2, c2, hb, hbs⟩⟩ := hrel
    · obtain ⟨hb, hcap, hqB, c0, c1⟩ := h0
      have HG := Lib.hid (And.intro hg ha)
      have HM := Lib.hid (show wkOf B wr = 1 by unfold wkOf; rw [(box2 hb).1.2])
      have HB := Lib.hid hb
      obtain ⟨⟨b0, b1⟩, f0, f1⟩ := box2 hb
      have hql := World.block_lt_of_cell? wr _ c0
      have hBl := blk_lt hb
      simp only [] at hql
      have hqB2 : ¬ B = q := fun e => hqB e.symm
      clear hg ha hb
      go_wp2_with fail
      have ha1 : ((wr.setCell ⟨B, 1, none⟩ (.slice (some ⟨q, 0, none⟩) 0 cap)).alloc (.cells #[.pointer (some ⟨A, 0, none⟩), .string ⟨#[]⟩] 61)).heap[A]? = some (.cells #[.int .i64 1, .int .u64 (wdN X 0), .int .u64 (wdN X 1), .int .u64 (wdN X 2), .int .u64 (wdN X 3), sl] 27 (0, 0)) :=
        blk_old _ _ (blk_aside HG.out.2 (fun e => hAB e.symm) _)
      have hb1 : ((wr.setCell ⟨B, 1, none⟩ (.slice (some ⟨q, 0, none⟩) 0 cap)).alloc (.cells #[.pointer (some ⟨A, 0, none⟩), .string ⟨#[]⟩] 61)).heap[B]? = some (.cells #[.slice none 0 0, .slice (some ⟨q, 0, none⟩) 0 cap] 57 (0, 0)) := by
        refine blk_old _ _ ?_
        have := HB.out
        simp [World.setCell, Array.getElem?_modify, this]
      have hg1 : Gr B w ((wr.setCell ⟨B, 1, none⟩ (.slice (some ⟨q, 0, none⟩) 0 cap)).alloc (.cells #[.pointer (some ⟨A, 0, none⟩), .string ⟨#[]⟩] 61)) := (HG.out.1.set (.inl rfl) _).alloc _
      generalize (wr.setCell _ _).alloc _ = W1 at ha1 hb1 hg1 ⊢
      refine (write_any X c HX.out A B sl _ W1 ha1 hb1).mono ?_
      rintro e w2 ⟨rfl, A1, n1, c2, h1, hbs, hg2⟩
      have HF : Hid (RunSt B A q cap (showT c).data.toList sl X w w2) := Lib.hid ⟨hg1.trans hg2, hAB, hg2.blk ha1 hAB, .inr ⟨A1, n1, c2, _, _, h1, hbs⟩⟩
      have H1 := Lib.hid h1
      clear ha1 hb1 hg1 h1 hbs hg2 c0 c1 b0 b1 f0 f1
      go_wp2_with fail
      go_roundw
      case rel => exact HF.out
      case measure =>
        rw [HM.out]
        unfold wkOf
        rw [(box2 H1.out).1.2]
        show (0 : Nat) < 1
        omega
    · have HG := Lib.hid hg
      have hs := hbs.str (P := Try.prog) 41 9 5 (by kernel_rfl) (by kernel_rfl) (by kernel_rfl)
      obtain ⟨⟨b0, b1⟩, f0, f1⟩ := box2 hb
      clear hg ha hb hbs
      go_wp2_with fail
      go_ret
      exact ⟨rfl, HG.out⟩
set_option maxRecDepth 100000 in
set_option maxHeartbeats 4000000 in
theorem Show_any (X : BitVec 256) (c : UInt8) (hX : ∀ i, X.getLsbD i = decide (i = c.toNat)) (sl : Value) (w : World) : Calls Try.prog 16 #[.agg #[.int .i64 1, .int .u64 (wdN X 0), .int .u64 (wdN X 1), .int .u64 (wdN X 2), .int .u64 (wdN X 3), sl]] w fun e w' => e = .returned (.string (showT c)) ∧ Kept w w' := by
  have HX := Lib.hid hX
  clear hX
  go_enter Try.func16, Try.ntmps16
  go_wp2_with fail
  obtain ⟨h0, h1, hk⟩ := alloc2 w (.cells #[.int .i64 1, .int .u64 (wdN X 0), .int .u64 (wdN X 1), .int .u64 (wdN X 2), .int .u64 (wdN X 3), sl] 27) (.cells #[.slice none 0 0, .slice none 0 0] 57)
  generalize (w.alloc _).alloc _ = w1 at h0 h1 hk ⊢
  refine (push_any w.heap.size (w.heap.size + 1) w1 h1).mono ?_
  rintro e w2 ⟨rfl, q, cap, hcap, hb, hqB, c0, c1, hg⟩
  have HR : Hid (RunSt (w.heap.size + 1) w.heap.size q cap (showT c).data.toList sl X w2 w2) := Lib.hid ⟨Gr.refl _ _, by omega, hg.blk h0 (by omega), .inl ⟨hb, hcap, hqB, c0, c1⟩⟩
  have HK := Lib.hid (Gr.above hk hg (by omega))
  clear h0 h1 hk hb c0 c1 hg
  go_wp2_with fail
  refine (run_any X c HX.out _ _ q cap sl w2 HR.out).mono ?_
  rintro e w3 ⟨rfl, hg⟩
  replace HK := Lib.hid (Gr.above HK.out hg (by omega))
  clear hg
  go_wp2_with fail
  go_ret
  exact ⟨rfl, HK.out⟩
end Go.Proofs.Ytpnmcinbohdmhaa
