/-
  The inner function alive of the laws of chapter 5 gives true: a run of it in the model. Conditions: the table of math/bits reads as the text lays it.
-/
import Derived.Test.YtccflcakkfjhbaaDoorLits
import Derived.Test.YtccflcakkfjhbaaDoorBytes
import Derived.KernelRfl
set_option linter.unusedSimpArgs false
namespace Go.Proofs.YtccflcakkfjhbaaDoor
open Go Go.RowKit Kit Ev
set_option maxRecDepth 100000
def tabZ : List Int := [0, 1, 56, 2, 57, 49, 28, 3, 61, 58, 42, 50, 38, 29, 17, 4, 62, 47, 59, 36, 45, 43, 51, 22, 53, 39, 33, 30, 24, 18, 12, 5, 63, 55, 48, 27, 60, 41, 37, 16, 46, 35, 44, 21, 52, 32, 23, 11, 54, 26, 40, 15, 34, 20, 31, 10, 25, 14, 19, 9, 13, 8, 7, 6]
def Tab (w : World) : Prop := ∀ i, i < 64 → w.cell? ⟨0, i, none⟩ = some (.int .u8 (tabZ.getD i 0))
theorem Tab.kept {w w' : World} (h : Tab w) (k : Kept w w') : Tab w' := fun i hi => k.cell (h i hi)
noncomputable def M0 : MH := ⟨.nd (some (.cs true 1 (ofL (tabZ.map (MV.i .u8)) 0))) .lf .lf, 1, 0⟩
noncomputable def gaveB (b : Bool) : Option (MV × MH) → Bool
  | some (.b c, _) => c == b
  | _ => false
theorem gave_some {b : Bool} {r : Option (MV × MH)} (h : gaveB b r = true) : ∃ M', r = some (.b b, M') := by
  unfold gaveB at h
  split at h
  · rename_i c M'
    simp only [beq_iff_eq] at h
    subst h
    exact ⟨M', rfl⟩
  · cases h
theorem alive_run : gaveB true (callK fns 4000 5 [] M0 fun m M => some (m, M)) = true := by kernel_rfl
def β0 : BM := fun id => if id = 0 then some ⟨0, 0, 64⟩ else none
theorem M0_get (id : Nat) : M0.get id = if id = 0 then some (.cs true 1 (ofL (tabZ.map (MV.i .u8)) 0)) else none := by
  by_cases h : id = 0
  · subst h; rfl
  · rw [if_neg h]
    show T.get _ (path id) = none
    cases hp : path id with
    | nil => exact absurd (path_inj (hp.trans (show [] = path 0 from rfl))) h
    | cons b q => cases b <;> exact T.get_lf q
theorem M0_inv {w : World} (h : Tab w) : Inv β0 M0 w := by
  refine ⟨fun id hid => ?_, fun id B hB => ?_, fun id o ho => ?_, fun id id' o o' B B' ho _ hr => ?_⟩
  · unfold β0
    rw [if_neg]
    rintro rfl
    exact absurd hid (by decide)
  · unfold β0 at hB
    split at hB
    · injection hB with hB
      subst hB
      exact World.block_lt_of_cell? w _ (h 0 (by decide))
    · cases hB
  · rw [M0_get] at ho
    split at ho
    · rename_i e
      subst e
      injection ho with ho
      subst ho
      refine ⟨⟨0, 0, 64⟩, rfl, fun i x hx => ?_⟩
      rw [cget_ofL, if_pos (Nat.zero_le _), Nat.sub_zero, List.getElem?_map, Option.map_eq_some_iff] at hx
      obtain ⟨z, hz, rfl⟩ := hx
      have hi : i < 64 := (List.getElem?_eq_some_iff.1 hz).1
      refine ⟨_, (by rw [Nat.zero_add]; exact h i hi), ?_⟩
      rw [List.getD_eq_getElem?_getD, hz]
      exact .i _ _
    · cases ho
  · rw [M0_get] at ho
    split at ho
    · injection ho with ho
      subst ho
      cases hr
    · cases ho
theorem glob0 : GlobOk β0 := by
  intro g id cap e
  unfold gtab at e
  split at e
  · rename_i hg
    injection e with e
    injection e with e1 e2
    subst e1 e2 hg
    rfl
  · cases e
theorem M0_ro : ∀ id o, M0.get id = some o → o.rw = false := by
  intro id o ho
  rw [M0_get] at ho
  split at ho
  · injection ho with ho
    subst ho
    rfl
  · cases ho
theorem alive_any (w : World) (ht : Tab w) : Calls Tryd.prog 5 #[] w fun e w' => e = .returned (.bool true) ∧ Kept w w' := by
  obtain ⟨M', h⟩ := gave_some (show gaveB true (callF fns 4000 5 [] M0) = true from (congrArg (gaveB true) (callK_eq fns 4000 5 [] M0)).symm.trans alive_run)
  have hm : Tryd.prog.follows .mixedOrders = true := by kernel_rfl
  have hx := calls_run_at (P := Tryd.prog) hm fns_ok 4000 5 [] [] (.b true) β0 M0 M' w glob0 (M0_inv ht) M0_ro h (DenL.nil _)
  refine Calls.mono hx ?_
  rintro e w' ⟨v, β', rfl, hd, hk⟩
  cases hd
  exact ⟨rfl, hk⟩
end Go.Proofs.YtccflcakkfjhbaaDoor
