/-
  For every row of tokens the law TokensKept returns true, and the tokens read as before. Conditions: none but what the card ties: the listed package variables read as the program's text lays them.
-/
import Derived.Test.YtnplnpemnadpoaaGreatDoorLr
import Derived.Test.YtnplnpemnadpoaaGreatDoorTie
import Derived.Test.YtnplnpemnadpoaaGreatDoorCards
import Derived.Deep.DeepHandedRow
import Derived.Deep.DeepWitnessRowRef
import Derived.ProofKit
import Derived.SizedLaws
import Derived.Lib.LaidTab
import Derived.LaidHandle
set_option linter.unusedSimpArgs false
set_option linter.unusedVariables false
namespace Go.Proofs.YtnplnpemnadpoaaGreatDoor
open Go Go.RowKit Go.ChangeShapes Go.WideShapes Go.ChangeAt Kit Ev
theorem tokensKept_own : ownKnob Tryz.prog.godebug = none := by kernel_rfl
theorem tokensKept_laidOut : laidOutB Tryz.prog = true := by kernel_rfl
theorem tokensKept_closed : Closed Tryz.prog [28, 44, 3] := fun t ht => List.all_eq_true.1 (show ([28, 44, 3] : List Nat).all (typeOk Tryz.prog [28, 44, 3]) = true by kernel_rfl) t ht
noncomputable def tokensKept_world (os : Os) : World :=
  let w0 := World.holding Tryz.prog os ⟨#[], #[], []⟩
  { w0 with heap := (w0.heap).modify 0 fun
      | .cells _ t frozen => .cells (tabZ.map fun z => Value.int .u8 z).toArray t frozen
      | o => o }
theorem tokensKept_laid (os : Os) (args : Array Value) : laidMet Tryz.prog Rows.tokensKeptRow.laid ((tokensKept_world os).forCall (fun _ _ => 0) ⟨#[], args, []⟩).memory :=
  laidMet_of_run' 8 (by kernel_rfl) (by kernel_rfl)
theorem tokensKept_witness (os : Os) {H : Type} (enc : TypeId × Value → H) :
    (OpenSpec.ofChange Rows.tokensKeptSpec).preRow enc Tryz.prog Tryz.f5 Rows.tokensKeptRow.domain false Rows.tokensKeptRow.laid ((tokensKept_world os).forCall (fun _ _ => 0) ⟨#[], #[.slice none 0 0], []⟩).memory #[.slice none 0 0] := by
  have hw : (DataW.whole enc Tryz.prog ((tokensKept_world os).forCall (fun _ _ => 0) ⟨#[], #[.slice none 0 0], []⟩).memory Tryz.f5.params.toList (OpenSpec.ofChange Rows.tokensKeptSpec).vars false (#[.slice none 0 0] : Array Value).toList 8).map (fun x => (x.1, x.2.1)) =
      some ([.nil], []) := by kernel_rfl
  obtain ⟨⟨x1, x2, x3⟩, hx, hx1⟩ := Option.map_eq_some_iff.1 hw
  simp only [Prod.mk.injEq] at hx1
  obtain ⟨rfl, rfl⟩ := hx1
  exact OpenSpec.preRow_of_cond 8 hx (by kernel_rfl) (fun k hk => by cases hk) (by kernel_rfl) (tokensKept_laid os _)
set_option maxRecDepth 100000 in
set_option maxHeartbeats 2000000 in
theorem tokensKept_lifted (os : Os) (started : os.Started) (H : Type) (enc : TypeId × Value → H) (F : Stop.Interp) :
    ReturnsInHanded {} Tryz.checked os 5 .any ((OpenSpec.ofChange Rows.tokensKeptSpec).preRow enc Tryz.prog Tryz.f5 Rows.tokensKeptRow.domain false Rows.tokensKeptRow.laid) (((OpenSpec.ofChange Rows.tokensKeptSpec).at F).post enc Tryz.prog Tryz.f5 false true false false) := by
  refine returnsInHanded_of_row (C := Tryz.checked) (s := OpenSpec.ofChange Rows.tokensKeptSpec) tokensKept_own started (by kernel_rfl) Tryz.func5
    (witness_row_atRef (enc := enc) (C := Tryz.checked) false (tokensKept_world os) #[.slice none 0 0] rfl (by kernel_rfl) (by kernel_rfl) (by kernel_rfl) (tokensKept_witness os enc)) ?_
  intro W base args ds gs before hval0 hW hcnd0 _ _ hL _ _
  have hval : ∀ (j : Nat) t v, Tryz.f5.params[j]? = some t → args[j]? = some v → Value.okWide Tryz.prog W .any base t v := hval0
  have hW' := hW
  obtain ⟨p, q, hA0, hV, rfl, hfz, hnd⟩ := hW
  have hA : DataW.TrodAll enc Tryz.prog W 0 (fun _ => true) true Tryz.f5.params.toList args.toList ds p := hA0
  have hA2 : DataW.TrodAll enc Tryz.prog W 0 (fun _ => true) true [28] args.toList ds p := by rw [Tryz.params5] at hA; exact hA
  rw [Tryz.params5] at hA hval
  have htab : Tab W := by
    have h1 : Lib.TabIs Tryz.prog W "math/bits.deBruijn64tab" .u8 tabZ := Lib.tabIs_of_head (rest := []) (g := 0) (by kernel_rfl) (t := 274) (by kernel_rfl) Tryz.underlying274 Tryz.underlying5 (show Tryz.prog.cellsOf 5 = 1 by kernel_rfl) (by kernel_rfl) hL
    exact fun i hi => h1.cell (g := 0) (by kernel_rfl) i hi
  have hlaw := law_in (r := .any) (base := base) mixed K.fns_ok tokensKept_closed (Nat.lt_of_le_of_lt (Nat.zero_le _) (World.block_lt_of_cell? W _ (htab 0 (by decide)))) (show ∀ t ∈ ([28] : List Nat), t ∈ ([28, 44, 3] : List Nat) by decide) hA2 (fun j t v h1 h2 => hval j t v (by simpa using h1) (by simpa using h2)) (opened0 htab) K.law_model
  obtain ⟨v0, vs0, d0, ds0, p0, q0, hargs, rfl, rfl, h0, r0⟩ := trodAll_cons hA
  obtain ⟨rfl, rfl, rfl⟩ := trodAll_nil r0
  obtain rfl : args = #[v0] := by cases args; simp_all
  obtain ⟨rfl, rfl⟩ := trodVars_none hV
  have lt0 : ∀ x ∈ p0, x.block < W.heap.size := by obtain ⟨m, hm⟩ := h0; exact DataW.trod_lt m _ _ _ hm
  clear hA0 hval0 hcnd0 hA2
  refine Calls.mono hlaw fun e W' ⟨he, bel⟩ => ?_
  subst he
  have e1 : ((OpenSpec.ofChange Rows.tokensKeptSpec).at F).fn H ([d0] ++ []) = { results := [.lit (.bool true)], args := [d0] } := rfl
  refine ⟨_, rfl, _, _, _, [], (p0 ++ []), [], hW', ?_, ?_, ?_, Below.frame bel _, fun h => by cases h⟩
  · rw [e1]; exact trodAll_mk1 (shut_bool Tryz.underlying4 _)
  · rw [e1]; exact (trodAll_cons_mk (Below.trod tokensKept_laidOut (by kernel_rfl) (of_decide_eq_true (by kernel_rfl)) h0 bel lt0) trodAll_mk0)
  · rw [e1]; rfl
theorem tokensKept_holds : Rows.TokensKeptSaid :=
  OpenClaim.holds_of_cond 5 Tryz.f5 rfl rfl rfl rfl rfl rfl rfl ⟨rfl, rfl, rfl, rfl, rfl⟩ rfl rfl rfl rfl rfl (by kernel_rfl) Tryz.func5 (by kernel_rfl)
    (of_decide_eq_true (by kernel_rfl)) (by unfold Func.isWrapper; first | (rw [if_pos (by decide +kernel)]; kernel_rfl) | (rw [if_neg (by decide +kernel)]; exact ⟨rfl, rfl⟩))
    (fun os started H enc _ F0 => by rw [OpenClaim.pre_eq_preRow]; exact tokensKept_lifted os started H enc F0)
set_option maxRecDepth 100000 in
theorem tokensKept_card : Rows.TokensKeptCardSaid :=
  Claim7.holds_tied_plain_at .later [] [.data] true (true, "a3774c4361d684a21bf731aadd719ee37b5f6504e0579acedab0f9f946f58a76") false
    tokensKept_holds (fun _ h => by cases h) (by kernel_rfl) (fun _ h => by cases h) tokensKept_row_tie rfl ⟨rfl, rfl⟩ (by kernel_rfl) rfl
    (fun f fn hf hfn => by
      obtain rfl : f = 5 := Option.some.inj ((show Tryz.prog.funcNamed Rows.tokensKeptRow.func = some 5 by kernel_rfl).symm.trans hf) |>.symm
      obtain rfl : fn = Tryz.f5 := (Option.some.inj (Tryz.func5.symm.trans hfn)).symm
      exact ⟨by kernel_rfl, fun j t ht => by
        rw [Tryz.params5] at ht
        have hmem : t ∈ ([28] : List Nat) := by
          have := List.mem_of_getElem? (show (#[28] : Array Nat).toList[j]? = some t by simpa using ht)
          simpa using this
        have hall : ∀ t ∈ ([28] : List Nat), Tryz.prog.wantsStandIn t = false := by
          intro t hm
          simp only [List.mem_cons, List.not_mem_nil, or_false] at hm
          rcases hm with rfl
          · exact (show Tryz.prog.wantsStandIn 28 = false by kernel_rfl)
        exact hall t hmem⟩)
    (by kernel_rfl)
end Go.Proofs.YtnplnpemnadpoaaGreatDoor
