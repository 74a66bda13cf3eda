/-
  For every number the law RegexWrong returns true. Conditions: none.
-/
import Derived.Test.YtpnmcinbohdmhaaAlive
set_option linter.unusedSimpArgs false
namespace Go.Proofs.Ytpnmcinbohdmhaa
open Go Go.RowKit Kit
def lawTexts : List ByteArray := [⟨#[]⟩, ⟨#[124]⟩, ⟨#[40]⟩, ⟨#[41]⟩, ⟨#[97, 41]⟩, ⟨#[40, 97]⟩, ⟨#[42]⟩, ⟨#[43, 97]⟩, ⟨#[97, 42, 42]⟩, ⟨#[97, 124, 42]⟩, ⟨#[91]⟩, ⟨#[91, 93]⟩, ⟨#[91, 94, 93]⟩, ⟨#[91, 97]⟩, ⟨#[91, 97, 45]⟩, ⟨#[91, 97, 45, 93]⟩, ⟨#[91, 45, 97, 93]⟩, ⟨#[91, 98, 45, 97, 93]⟩, ⟨#[91, 98, 45, 92, 97, 93]⟩, ⟨#[91, 92, 93, 93]⟩, ⟨#[92]⟩, ⟨#[97, 92]⟩, ⟨#[93]⟩, ⟨#[40, 41]⟩, ⟨#[40, 124, 41]⟩, ⟨#[91, 97, 45, 122, 45, 57, 93]⟩, ⟨#[91, 45, 45, 97, 93]⟩, ⟨#[46]⟩, ⟨#[91, 94, 94, 93]⟩, ⟨#[91, 97, 94, 93]⟩, ⟨#[91, 92]⟩]
def lawErrs : List Nat := [0, 0, 2, 2, 2, 2, 2, 2, 0, 2, 2, 2, 2, 2, 2, 0, 0, 2, 2, 0, 2, 2, 2, 0, 0, 0, 0, 0, 0, 0, 2]
def lawAts : List Nat := [0, 1, 1, 0, 1, 2, 0, 0, 3, 2, 1, 1, 2, 2, 3, 4, 4, 3, 3, 4, 1, 2, 0, 2, 3, 7, 5, 1, 4, 4, 2]
theorem law_texts : ∀ n : Fin 31, (parseP (lawTexts.getD n ⟨#[]⟩)).2 = (lawAts.getD n 0, lawErrs.getD n 0) := by decide +kernel
def strsV : Array Value := #[.string { data := #[] }, .string { data := #[124] }, .string { data := #[40] }, .string { data := #[41] }, .string { data := #[97, 41] }, .string { data := #[40, 97] }, .string { data := #[42] }, .string { data := #[43, 97] }, .string { data := #[97, 42, 42] }, .string { data := #[97, 124, 42] }, .string { data := #[91] }, .string { data := #[91, 93] }, .string { data := #[91, 94, 93] }, .string { data := #[91, 97] }, .string { data := #[91, 97, 45] }, .string { data := #[91, 97, 45, 93] }, .string { data := #[91, 45, 97, 93] }, .string { data := #[91, 98, 45, 97, 93] }, .string { data := #[91, 98, 45, 92, 97, 93] }, .string { data := #[91, 92, 93, 93] }, .string { data := #[92] }, .string { data := #[97, 92] }, .string { data := #[93] }, .string { data := #[40, 41] }, .string { data := #[40, 124, 41] }, .string { data := #[91, 97, 45, 122, 45, 57, 93] }, .string { data := #[91, 45, 45, 97, 93] }, .string { data := #[46] }, .string { data := #[91, 94, 94, 93] }, .string { data := #[91, 97, 94, 93] }, .string { data := #[91, 92] }]
def errsV : Array Value := #[.int .i64 0, .int .i64 0, .int .i64 2, .int .i64 2, .int .i64 2, .int .i64 2, .int .i64 2, .int .i64 2, .int .i64 0, .int .i64 2, .int .i64 2, .int .i64 2, .int .i64 2, .int .i64 2, .int .i64 2, .int .i64 0, .int .i64 0, .int .i64 2, .int .i64 2, .int .i64 0, .int .i64 2, .int .i64 2, .int .i64 2, .int .i64 0, .int .i64 0, .int .i64 0, .int .i64 0, .int .i64 0, .int .i64 0, .int .i64 0, .int .i64 2]
def atsV : Array Value := #[.int .i64 0, .int .i64 1, .int .i64 1, .int .i64 0, .int .i64 1, .int .i64 2, .int .i64 0, .int .i64 0, .int .i64 3, .int .i64 2, .int .i64 1, .int .i64 1, .int .i64 2, .int .i64 2, .int .i64 3, .int .i64 4, .int .i64 4, .int .i64 3, .int .i64 3, .int .i64 4, .int .i64 1, .int .i64 2, .int .i64 0, .int .i64 2, .int .i64 3, .int .i64 7, .int .i64 5, .int .i64 1, .int .i64 4, .int .i64 4, .int .i64 2]
theorem strs_at : ∀ n : Fin 31, strsV[n.val]? = some (.string (lawTexts.getD n ⟨#[]⟩)) := by
  intro ⟨n, h⟩
  match n, h with
  | 0, _ => rfl
  | 1, _ => rfl
  | 2, _ => rfl
  | 3, _ => rfl
  | 4, _ => rfl
  | 5, _ => rfl
  | 6, _ => rfl
  | 7, _ => rfl
  | 8, _ => rfl
  | 9, _ => rfl
  | 10, _ => rfl
  | 11, _ => rfl
  | 12, _ => rfl
  | 13, _ => rfl
  | 14, _ => rfl
  | 15, _ => rfl
  | 16, _ => rfl
  | 17, _ => rfl
  | 18, _ => rfl
  | 19, _ => rfl
  | 20, _ => rfl
  | 21, _ => rfl
  | 22, _ => rfl
  | 23, _ => rfl
  | 24, _ => rfl
  | 25, _ => rfl
  | 26, _ => rfl
  | 27, _ => rfl
  | 28, _ => rfl
  | 29, _ => rfl
  | 30, _ => rfl
  | m + 31, h => exact absurd h (by omega)
theorem errs_at : ∀ n : Fin 31, errsV[n.val]? = some (.int .i64 (lawErrs.getD n 0 : Nat)) := by
  intro ⟨n, h⟩
  match n, h with
  | 0, _ => rfl
  | 1, _ => rfl
  | 2, _ => rfl
  | 3, _ => rfl
  | 4, _ => rfl
  | 5, _ => rfl
  | 6, _ => rfl
  | 7, _ => rfl
  | 8, _ => rfl
  | 9, _ => rfl
  | 10, _ => rfl
  | 11, _ => rfl
  | 12, _ => rfl
  | 13, _ => rfl
  | 14, _ => rfl
  | 15, _ => rfl
  | 16, _ => rfl
  | 17, _ => rfl
  | 18, _ => rfl
  | 19, _ => rfl
  | 20, _ => rfl
  | 21, _ => rfl
  | 22, _ => rfl
  | 23, _ => rfl
  | 24, _ => rfl
  | 25, _ => rfl
  | 26, _ => rfl
  | 27, _ => rfl
  | 28, _ => rfl
  | 29, _ => rfl
  | 30, _ => rfl
  | m + 31, h => exact absurd h (by omega)
theorem ats_at : ∀ n : Fin 31, atsV[n.val]? = some (.int .i64 (lawAts.getD n 0 : Nat)) := by
  intro ⟨n, h⟩
  match n, h with
  | 0, _ => rfl
  | 1, _ => rfl
  | 2, _ => rfl
  | 3, _ => rfl
  | 4, _ => rfl
  | 5, _ => rfl
  | 6, _ => rfl
  | 7, _ => rfl
  | 8, _ => rfl
  | 9, _ => rfl
  | 10, _ => rfl
  | 11, _ => rfl
  | 12, _ => rfl
  | 13, _ => rfl
  | 14, _ => rfl
  | 15, _ => rfl
  | 16, _ => rfl
  | 17, _ => rfl
  | 18, _ => rfl
  | 19, _ => rfl
  | 20, _ => rfl
  | 21, _ => rfl
  | 22, _ => rfl
  | 23, _ => rfl
  | 24, _ => rfl
  | 25, _ => rfl
  | 26, _ => rfl
  | 27, _ => rfl
  | 28, _ => rfl
  | 29, _ => rfl
  | 30, _ => rfl
  | m + 31, h => exact absurd h (by omega)
set_option maxRecDepth 100000 in
set_option maxHeartbeats 4000000 in
theorem lawWrong_out (z : Int) (hz : z < 0 ∨ 31 ≤ z) (w : World) : Calls Try.prog 5 #[.int .i64 z] w fun e w' => e = .returned (.bool true) ∧ Kept w w' := by
  rcases hz with h1 | h1
  all_goals
    go_enter Try.func5, Try.ntmps5
    go_wp2_with fail
    refine (alive_any w).mono ?_
    rintro e w1 ⟨rfl, hk⟩
    have HK := Lib.hid hk
    clear hk
    go_wp2_with fail
    go_ret
    exact ⟨rfl, ((HK.out.alloc _).alloc _).alloc _⟩
set_option maxRecDepth 100000 in
set_option maxHeartbeats 4000000 in
theorem lawWrong_in (n : Nat) (h31 : n < 31) (w : World) : Calls Try.prog 5 #[.int .i64 n] w fun e w' => e = .returned (.bool true) ∧ Kept w w' := by
  have hn31 : (n : Int) < 31 := by omega
  have hn0 : (0 : Int) ≤ n := by omega
  have hS := Lib.hid (strs_at ⟨n, h31⟩)
  have hE := Lib.hid (errs_at ⟨n, h31⟩)
  have hA := Lib.hid (ats_at ⟨n, h31⟩)
  have hP := law_texts ⟨n, h31⟩
  generalize lawTexts.getD (⟨n, h31⟩ : Fin 31).val ⟨#[]⟩ = T at *
  generalize lawErrs.getD (⟨n, h31⟩ : Fin 31).val 0 = e0 at *
  generalize lawAts.getD (⟨n, h31⟩ : Fin 31).val 0 = a0 at *
  have HP := Lib.hid hP
  clear hP
  go_enter Try.func5, Try.ntmps5
  go_wp2_with fail
  refine (alive_any w).mono ?_
  rintro e w1 ⟨rfl, hk⟩
  have HK := Lib.hid hk
  clear hk
  have hSL : ∀ h, ([.string { data := #[] }, .string { data := #[124] }, .string { data := #[40] }, .string { data := #[41] }, .string { data := #[97, 41] }, .string { data := #[40, 97] }, .string { data := #[42] }, .string { data := #[43, 97] }, .string { data := #[97, 42, 42] }, .string { data := #[97, 124, 42] }, .string { data := #[91] }, .string { data := #[91, 93] }, .string { data := #[91, 94, 93] }, .string { data := #[91, 97] }, .string { data := #[91, 97, 45] }, .string { data := #[91, 97, 45, 93] }, .string { data := #[91, 45, 97, 93] }, .string { data := #[91, 98, 45, 97, 93] }, .string { data := #[91, 98, 45, 92, 97, 93] }, .string { data := #[91, 92, 93, 93] }, .string { data := #[92] }, .string { data := #[97, 92] }, .string { data := #[93] }, .string { data := #[40, 41] }, .string { data := #[40, 124, 41] }, .string { data := #[91, 97, 45, 122, 45, 57, 93] }, .string { data := #[91, 45, 45, 97, 93] }, .string { data := #[46] }, .string { data := #[91, 94, 94, 93] }, .string { data := #[91, 97, 94, 93] }, .string { data := #[91, 92] }] : List Value)[n]'h = .string T := fun h => by
    have h1 : ([.string { data := #[] }, .string { data := #[124] }, .string { data := #[40] }, .string { data := #[41] }, .string { data := #[97, 41] }, .string { data := #[40, 97] }, .string { data := #[42] }, .string { data := #[43, 97] }, .string { data := #[97, 42, 42] }, .string { data := #[97, 124, 42] }, .string { data := #[91] }, .string { data := #[91, 93] }, .string { data := #[91, 94, 93] }, .string { data := #[91, 97] }, .string { data := #[91, 97, 45] }, .string { data := #[91, 97, 45, 93] }, .string { data := #[91, 45, 97, 93] }, .string { data := #[91, 98, 45, 97, 93] }, .string { data := #[91, 98, 45, 92, 97, 93] }, .string { data := #[91, 92, 93, 93] }, .string { data := #[92] }, .string { data := #[97, 92] }, .string { data := #[93] }, .string { data := #[40, 41] }, .string { data := #[40, 124, 41] }, .string { data := #[91, 97, 45, 122, 45, 57, 93] }, .string { data := #[91, 45, 45, 97, 93] }, .string { data := #[46] }, .string { data := #[91, 94, 94, 93] }, .string { data := #[91, 97, 94, 93] }, .string { data := #[91, 92] }] : List Value)[n]? = some (.string T) := by rw [← hS.out]; unfold strsV; simp
    rw [List.getElem?_eq_getElem h] at h1
    exact Option.some.inj h1
  go_wp2_with fail
  have c1 : (((w1.alloc (.cells #[.string { data := #[] }, .string { data := #[124] }, .string { data := #[40] }, .string { data := #[41] }, .string { data := #[97, 41] }, .string { data := #[40, 97] }, .string { data := #[42] }, .string { data := #[43, 97] }, .string { data := #[97, 42, 42] }, .string { data := #[97, 124, 42] }, .string { data := #[91] }, .string { data := #[91, 93] }, .string { data := #[91, 94, 93] }, .string { data := #[91, 97] }, .string { data := #[91, 97, 45] }, .string { data := #[91, 97, 45, 93] }, .string { data := #[91, 45, 97, 93] }, .string { data := #[91, 98, 45, 97, 93] }, .string { data := #[91, 98, 45, 92, 97, 93] }, .string { data := #[91, 92, 93, 93] }, .string { data := #[92] }, .string { data := #[97, 92] }, .string { data := #[93] }, .string { data := #[40, 41] }, .string { data := #[40, 124, 41] }, .string { data := #[91, 97, 45, 122, 45, 57, 93] }, .string { data := #[91, 45, 45, 97, 93] }, .string { data := #[46] }, .string { data := #[91, 94, 94, 93] }, .string { data := #[91, 97, 94, 93] }, .string { data := #[91, 92] }] 9)).alloc (.cells #[.int .i64 0, .int .i64 0, .int .i64 2, .int .i64 2, .int .i64 2, .int .i64 2, .int .i64 2, .int .i64 2, .int .i64 0, .int .i64 2, .int .i64 2, .int .i64 2, .int .i64 2, .int .i64 2, .int .i64 2, .int .i64 0, .int .i64 0, .int .i64 2, .int .i64 2, .int .i64 0, .int .i64 2, .int .i64 2, .int .i64 2, .int .i64 0, .int .i64 0, .int .i64 0, .int .i64 0, .int .i64 0, .int .i64 0, .int .i64 0, .int .i64 2] 3)).alloc (.cells #[.int .i64 0, .int .i64 1, .int .i64 1, .int .i64 0, .int .i64 1, .int .i64 2, .int .i64 0, .int .i64 0, .int .i64 3, .int .i64 2, .int .i64 1, .int .i64 1, .int .i64 2, .int .i64 2, .int .i64 3, .int .i64 4, .int .i64 4, .int .i64 3, .int .i64 3, .int .i64 4, .int .i64 1, .int .i64 2, .int .i64 0, .int .i64 2, .int .i64 3, .int .i64 7, .int .i64 5, .int .i64 1, .int .i64 4, .int .i64 4, .int .i64 2] 3)).cell? ⟨w1.heap.size + 1, n, none⟩ = some (.int .i64 e0) := by
    show (((w1.alloc (.cells strsV 9)).alloc (.cells errsV 3)).alloc (.cells atsV 3)).cell? ⟨w1.heap.size + 1, n, none⟩ = some (.int .i64 e0)
    rw [blk_cell (blk_old _ _ (alloc2' w1 (.cells strsV 9) (.cells errsV 3)).2)]; exact hE.out
  have c2 : (((w1.alloc (.cells #[.string { data := #[] }, .string { data := #[124] }, .string { data := #[40] }, .string { data := #[41] }, .string { data := #[97, 41] }, .string { data := #[40, 97] }, .string { data := #[42] }, .string { data := #[43, 97] }, .string { data := #[97, 42, 42] }, .string { data := #[97, 124, 42] }, .string { data := #[91] }, .string { data := #[91, 93] }, .string { data := #[91, 94, 93] }, .string { data := #[91, 97] }, .string { data := #[91, 97, 45] }, .string { data := #[91, 97, 45, 93] }, .string { data := #[91, 45, 97, 93] }, .string { data := #[91, 98, 45, 97, 93] }, .string { data := #[91, 98, 45, 92, 97, 93] }, .string { data := #[91, 92, 93, 93] }, .string { data := #[92] }, .string { data := #[97, 92] }, .string { data := #[93] }, .string { data := #[40, 41] }, .string { data := #[40, 124, 41] }, .string { data := #[91, 97, 45, 122, 45, 57, 93] }, .string { data := #[91, 45, 45, 97, 93] }, .string { data := #[46] }, .string { data := #[91, 94, 94, 93] }, .string { data := #[91, 97, 94, 93] }, .string { data := #[91, 92] }] 9)).alloc (.cells #[.int .i64 0, .int .i64 0, .int .i64 2, .int .i64 2, .int .i64 2, .int .i64 2, .int .i64 2, .int .i64 2, .int .i64 0, .int .i64 2, .int .i64 2, .int .i64 2, .int .i64 2, .int .i64 2, .int .i64 2, .int .i64 0, .int .i64 0, .int .i64 2, .int .i64 2, .int .i64 0, .int .i64 2, .int .i64 2, .int .i64 2, .int .i64 0, .int .i64 0, .int .i64 0, .int .i64 0, .int .i64 0, .int .i64 0, .int .i64 0, .int .i64 2] 3)).alloc (.cells #[.int .i64 0, .int .i64 1, .int .i64 1, .int .i64 0, .int .i64 1, .int .i64 2, .int .i64 0, .int .i64 0, .int .i64 3, .int .i64 2, .int .i64 1, .int .i64 1, .int .i64 2, .int .i64 2, .int .i64 3, .int .i64 4, .int .i64 4, .int .i64 3, .int .i64 3, .int .i64 4, .int .i64 1, .int .i64 2, .int .i64 0, .int .i64 2, .int .i64 3, .int .i64 7, .int .i64 5, .int .i64 1, .int .i64 4, .int .i64 4, .int .i64 2] 3)).cell? ⟨w1.heap.size + 2, n, none⟩ = some (.int .i64 a0) := by
    have := (alloc2' (w1.alloc (.cells strsV 9)) (.cells errsV 3) (.cells atsV 3)).2
    rw [World.size_alloc] at this
    show (((w1.alloc (.cells strsV 9)).alloc (.cells errsV 3)).alloc (.cells atsV 3)).cell? ⟨w1.heap.size + 2, n, none⟩ = some (.int .i64 a0)
    rw [blk_cell this]; exact hA.out
  have HK3 : Kept w (((w1.alloc (.cells #[.string { data := #[] }, .string { data := #[124] }, .string { data := #[40] }, .string { data := #[41] }, .string { data := #[97, 41] }, .string { data := #[40, 97] }, .string { data := #[42] }, .string { data := #[43, 97] }, .string { data := #[97, 42, 42] }, .string { data := #[97, 124, 42] }, .string { data := #[91] }, .string { data := #[91, 93] }, .string { data := #[91, 94, 93] }, .string { data := #[91, 97] }, .string { data := #[91, 97, 45] }, .string { data := #[91, 97, 45, 93] }, .string { data := #[91, 45, 97, 93] }, .string { data := #[91, 98, 45, 97, 93] }, .string { data := #[91, 98, 45, 92, 97, 93] }, .string { data := #[91, 92, 93, 93] }, .string { data := #[92] }, .string { data := #[97, 92] }, .string { data := #[93] }, .string { data := #[40, 41] }, .string { data := #[40, 124, 41] }, .string { data := #[91, 97, 45, 122, 45, 57, 93] }, .string { data := #[91, 45, 45, 97, 93] }, .string { data := #[46] }, .string { data := #[91, 94, 94, 93] }, .string { data := #[91, 97, 94, 93] }, .string { data := #[91, 92] }] 9)).alloc (.cells #[.int .i64 0, .int .i64 0, .int .i64 2, .int .i64 2, .int .i64 2, .int .i64 2, .int .i64 2, .int .i64 2, .int .i64 0, .int .i64 2, .int .i64 2, .int .i64 2, .int .i64 2, .int .i64 2, .int .i64 2, .int .i64 0, .int .i64 0, .int .i64 2, .int .i64 2, .int .i64 0, .int .i64 2, .int .i64 2, .int .i64 2, .int .i64 0, .int .i64 0, .int .i64 0, .int .i64 0, .int .i64 0, .int .i64 0, .int .i64 0, .int .i64 2] 3)).alloc (.cells #[.int .i64 0, .int .i64 1, .int .i64 1, .int .i64 0, .int .i64 1, .int .i64 2, .int .i64 0, .int .i64 0, .int .i64 3, .int .i64 2, .int .i64 1, .int .i64 1, .int .i64 2, .int .i64 2, .int .i64 3, .int .i64 4, .int .i64 4, .int .i64 3, .int .i64 3, .int .i64 4, .int .i64 1, .int .i64 2, .int .i64 0, .int .i64 2, .int .i64 3, .int .i64 7, .int .i64 5, .int .i64 1, .int .i64 4, .int .i64 4, .int .i64 2] 3)) := ((HK.out.alloc _).alloc _).alloc _
  clear hSL hS hE hA
  generalize (((w1.alloc (.cells #[.string { data := #[] }, .string { data := #[124] }, .string { data := #[40] }, .string { data := #[41] }, .string { data := #[97, 41] }, .string { data := #[40, 97] }, .string { data := #[42] }, .string { data := #[43, 97] }, .string { data := #[97, 42, 42] }, .string { data := #[97, 124, 42] }, .string { data := #[91] }, .string { data := #[91, 93] }, .string { data := #[91, 94, 93] }, .string { data := #[91, 97] }, .string { data := #[91, 97, 45] }, .string { data := #[91, 97, 45, 93] }, .string { data := #[91, 45, 97, 93] }, .string { data := #[91, 98, 45, 97, 93] }, .string { data := #[91, 98, 45, 92, 97, 93] }, .string { data := #[91, 92, 93, 93] }, .string { data := #[92] }, .string { data := #[97, 92] }, .string { data := #[93] }, .string { data := #[40, 41] }, .string { data := #[40, 124, 41] }, .string { data := #[91, 97, 45, 122, 45, 57, 93] }, .string { data := #[91, 45, 45, 97, 93] }, .string { data := #[46] }, .string { data := #[91, 94, 94, 93] }, .string { data := #[91, 97, 94, 93] }, .string { data := #[91, 92] }] 9)).alloc (.cells #[.int .i64 0, .int .i64 0, .int .i64 2, .int .i64 2, .int .i64 2, .int .i64 2, .int .i64 2, .int .i64 2, .int .i64 0, .int .i64 2, .int .i64 2, .int .i64 2, .int .i64 2, .int .i64 2, .int .i64 2, .int .i64 0, .int .i64 0, .int .i64 2, .int .i64 2, .int .i64 0, .int .i64 2, .int .i64 2, .int .i64 2, .int .i64 0, .int .i64 0, .int .i64 0, .int .i64 0, .int .i64 0, .int .i64 0, .int .i64 0, .int .i64 2] 3)).alloc (.cells #[.int .i64 0, .int .i64 1, .int .i64 1, .int .i64 0, .int .i64 1, .int .i64 2, .int .i64 0, .int .i64 0, .int .i64 3, .int .i64 2, .int .i64 1, .int .i64 1, .int .i64 2, .int .i64 2, .int .i64 3, .int .i64 4, .int .i64 4, .int .i64 3, .int .i64 3, .int .i64 4, .int .i64 1, .int .i64 2, .int .i64 0, .int .i64 2, .int .i64 3, .int .i64 7, .int .i64 5, .int .i64 1, .int .i64 4, .int .i64 4, .int .i64 2] 3)) = w3 at c1 c2 HK3 ⊢
  refine (Parse_any T w3).mono ?_
  rintro e w4 ⟨u, rfl, hx, hk4⟩
  obtain ⟨A, m, p, rfl⟩ := hx.inv
  rw [HP.out]
  generalize (parseP T).1.set = X
  generalize (parseP T).1.op = o1
  have HK4 := Lib.hid (HK3.trans hk4)
  replace c1 := hk4.cell c1
  replace c2 := hk4.cell c2
  clear hx hk4 HK3 HK
  simp only [re6_form]
  go_wp2_with fail
  obtain ⟨-, hk5⟩ := alloc1 w4 (.cells #[.int .i64 o1, .int .u64 (wdN X 0), .int .u64 (wdN X 1), .int .u64 (wdN X 2), .int .u64 (wdN X 3), .slice A m p] 27)
  generalize w4.alloc _ = w5 at hk5 ⊢
  replace c1 := hk5.cell c1
  replace c2 := hk5.cell c2
  replace HK4 := Lib.hid (HK4.out.trans hk5)
  clear hk5
  refine wp_region_go Kept pre_kept [([(9, none)], none), ([(36, some 0)], none), ([(5, none)], none), ([(0, none)], none), ([(38, some 2), (39, some 3)], none), ([(40, some 4)], none), ([(37, some 1), (41, some 5)], none), ([(42, some 6)], none), ([(8, none), (43, some 7)], some (43, true)), ([(6, none), (43, some 7)], some (43, true)), ([(0, none), (43, some 7)], some (43, true)), ([(45, some 9), (46, some 10), (43, some 7)], some (43, true)), ([(47, some 11), (43, some 7)], some (43, true)), ([(44, some 8), (48, some 12), (43, some 7)], some (43, true)), ([(43, some 7), (49, some 13)], none), ([(50, some 14)], none)] (by kernel_rfl) 51 rfl (by kernel_rfl) (by kernel_rfl) ?_
  apply go_val pre_kept
  · rintro ρ wr ⟨hg, hn, hc, hf, hgl⟩
    simp only [Need, fat, List.nil_append, List.cons_append, List.getD_cons_zero, List.getD_cons_succ, Fct.hold, and_true] at hn
    refine ⟨by simp [wantP, hn], ?_⟩
    simp [execOp, hn, hc, go_sem]
    exact rfl
  apply go_callv (x := .int .i64 (e0 : Int))
  · rintro ρ wr ⟨hg, hn, hc, hf, hgl⟩
    simp only [Need, fat, List.nil_append, List.cons_append, List.getD_cons_zero, List.getD_cons_succ, Fct.hold, and_true] at hn
    refine ⟨by simp [wantP, hn], _, _, by simp [execOp, hn, hf, hc, resolve, invoke, go_sem]; exact ⟨rfl, rfl⟩, ?_⟩
    exact (num_any _ _).mono fun e w' ⟨h1, h2⟩ => ⟨_, h1, rfl, by rw [h2]; exact Kept.refl _⟩
  apply go_val pre_kept
  · rintro ρ wr ⟨hg, hn, hc, hf, hgl⟩
    simp only [Need, fat, List.nil_append, List.cons_append, List.getD_cons_zero, List.getD_cons_succ, Fct.hold, and_true] at hn
    refine ⟨by simp [wantP, hn], ?_⟩
    simp [execOp, hn, hc, go_sem]
    exact rfl
  apply go_val pre_kept
  · rintro ρ wr ⟨hg, hn, hc, hf, hgl⟩
    simp only [Need, fat, List.nil_append, List.cons_append, List.getD_cons_zero, List.getD_cons_succ, Fct.hold, and_true] at hn
    refine ⟨by simp [wantP, hn], ?_⟩
    simp [execOp, hn, hc, go_sem]
    exact rfl
  apply go_val (x := .pointer (some ⟨w1.heap.size + 1, n, none⟩)) pre_kept
  · rintro ρ wr ⟨hg, hn, hc, hf, hgl⟩
    simp only [Need, fat, List.nil_append, List.cons_append, List.getD_cons_zero, List.getD_cons_succ, Fct.hold, and_true] at hn
    refine ⟨by simp [wantP, hn], ?_⟩
    simp [execOp, hn, hc, go_sem, hn31, hn0]
  apply go_val pre_kept
  · rintro ρ wr ⟨hg, hn, hc, hf, hgl⟩
    simp only [Need, fat, List.nil_append, List.cons_append, List.getD_cons_zero, List.getD_cons_succ, Fct.hold, and_true] at hn
    have hl := And.intro (hg.cell c1) (hg.cell c2)
    refine ⟨by simp [wantP, hn], ?_⟩
    simp [execOp, hn, hc, hl, go_sem]
    exact rfl
  apply go_val (x := .bool true) pre_kept
  · rintro ρ wr ⟨hg, hn, hc, hf, hgl⟩
    simp only [Need, fat, List.nil_append, List.cons_append, List.getD_cons_zero, List.getD_cons_succ, Fct.hold, and_true] at hn
    refine ⟨by simp [wantP, hn], ?_⟩
    simp [execOp, hn, hc, go_sem]
  apply go_val (x := .bool true) pre_kept
  · rintro ρ wr ⟨hg, hn, hc, hf, hgl⟩
    simp only [Need, fat, List.nil_append, List.cons_append, List.getD_cons_zero, List.getD_cons_succ, Fct.hold, and_true] at hn
    refine ⟨by simp [wantP, hn], ?_⟩
    simp [execOp, hn, hc, go_sem]
  apply go_val pre_kept
  · rintro ρ wr ⟨hg, hn, hc, hf, hgl⟩
    simp only [Need, fat, List.nil_append, List.cons_append, List.getD_cons_zero, List.getD_cons_succ, Fct.hold, and_true] at hn
    refine ⟨by simp [wantP, hn], ?_⟩
    simp [execOp, hn, hc, go_sem]
    exact rfl
  apply go_val pre_kept
  · rintro ρ wr ⟨hg, hn, hc, hf, hgl⟩
    simp only [Need, fat, List.nil_append, List.cons_append, List.getD_cons_zero, List.getD_cons_succ, Fct.hold, and_true] at hn
    refine ⟨by simp [wantP, hn], ?_⟩
    simp [execOp, hn, hc, go_sem]
    exact rfl
  apply go_val pre_kept
  · rintro ρ wr ⟨hg, hn, hc, hf, hgl⟩
    simp only [Need, fat, List.nil_append, List.cons_append, List.getD_cons_zero, List.getD_cons_succ, Fct.hold, and_true] at hn
    refine ⟨by simp [wantP, hn], ?_⟩
    simp [execOp, hn, hc, go_sem]
    exact rfl
  apply go_val (x := .pointer (some ⟨w1.heap.size + 2, n, none⟩)) pre_kept
  · rintro ρ wr ⟨hg, hn, hc, hf, hgl⟩
    simp only [Need, fat, List.nil_append, List.cons_append, List.getD_cons_zero, List.getD_cons_succ, Fct.hold, and_true] at hn
    refine ⟨by simp [wantP, hn], ?_⟩
    simp [execOp, hn, hc, go_sem, hn31, hn0]
  apply go_val pre_kept
  · rintro ρ wr ⟨hg, hn, hc, hf, hgl⟩
    simp only [Need, fat, List.nil_append, List.cons_append, List.getD_cons_zero, List.getD_cons_succ, Fct.hold, and_true] at hn
    have hl := And.intro (hg.cell c1) (hg.cell c2)
    refine ⟨by simp [wantP, hn], ?_⟩
    simp [execOp, hn, hc, hl, go_sem]
    exact rfl
  apply go_val (x := .bool true) pre_kept
  · rintro ρ wr ⟨hg, hn, hc, hf, hgl⟩
    simp only [Need, fat, List.nil_append, List.cons_append, List.getD_cons_zero, List.getD_cons_succ, Fct.hold, and_true] at hn
    refine ⟨by simp [wantP, hn], ?_⟩
    simp [execOp, hn, hc, go_sem]
  apply go_val (x := .bool true) pre_kept
  · rintro ρ wr ⟨hg, hn, hc, hf, hgl⟩
    simp only [Need, fat, List.nil_append, List.cons_append, List.getD_cons_zero, List.getD_cons_succ, Fct.hold, and_true] at hn
    refine ⟨by simp [wantP, hn], ?_⟩
    simp [execOp, hn, hc, go_sem]
  apply go_val pre_kept
  · rintro ρ wr ⟨hg, hn, hc, hf, hgl⟩
    simp only [Need, fat, List.nil_append, List.cons_append, List.getD_cons_zero, List.getD_cons_succ, Fct.hold, and_true] at hn
    refine ⟨by simp [wantP, hn], ?_⟩
    simp [execOp, hn, hc, go_sem]
    exact rfl
  intro w2 hk2
  simp only [Post, List.nil_append, List.cons_append, Act.put, List.setIfInBounds_toArray, List.set_cons_zero, List.set_cons_succ]
  rename_i hK
  refine hK _ _ ?_
  clear hK
  have HF := Lib.hid ((HK4.out.trans (Kept.drew (Kept.refl _))).trans hk2)
  clear hk2 c1 c2
  go_wp2_with fail
  go_ret
  exact ⟨rfl, HF.out⟩
theorem lawWrong_any (z : Int) (w : World) : Calls Try.prog 5 #[.int .i64 z] w fun e w' => e = .returned (.bool true) ∧ Kept w w' := by
  by_cases hz : z < 0 ∨ 31 ≤ z
  · exact lawWrong_out z hz w
  · obtain ⟨n, rfl⟩ : ∃ n : Nat, z = n := ⟨z.toNat, by omega⟩
    exact lawWrong_in n (by omega) w
end Go.Proofs.Ytpnmcinbohdmhaa
