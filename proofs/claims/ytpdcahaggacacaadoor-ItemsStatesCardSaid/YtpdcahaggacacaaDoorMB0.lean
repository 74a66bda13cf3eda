/-
 For every grammar the law ItemsStates returns true, and its argument reads as1 before. Conditions: none but what the card ties: the listed package variables read as1 the program's text lays them.
-/
import Derived.Test.YtpdcahaggacacaaDoorRows
import Derived.Test.YtpdcahaggacacaaDoorMB6
import Derived.Test.YtpdcahaggacacaaDoorTie
import Derived.Test.YtpdcahaggacacaaDoorCards
import Derived.Deep.DeepHandedRow
import Derived.Deep.DeepWitnessRowRef
import Derived.ProofKit
import Derived.SizedLaws
import Derived.Lib.LaidTab
import Derived.LaidHandle
set_option linter.unusedSimpArgs false
set_option linter.unusedVariables false
namespace Go.Proofs.YtpdcahaggacacaaDoor
open Go Go.RowKit Go.ChangeShapes Go.WideShapes Go.ChangeAt Kit Ev
theorem itemsStates_own : ownKnob Tryd.prog.godebug = none := by kernel_rfl
theorem itemsStates_laidOut : laidOutB Tryd.prog = true := by kernel_rfl
theorem itemsStates_closed : Closed Tryd.prog [26, 3, 22, 23, 24, 42, 81, 27, 47] := fun t ht => List.all_eq_true.1 (show ([26, 3, 22, 23, 24, 42, 81, 27, 47] : List Nat).all (typeOk Tryd.prog [26, 3, 22, 23, 24, 42, 81, 27, 47]) = true by kernel_rfl) t ht
noncomputable def itemsStates_world (os : Os) : World :=
 let w0 := World.holding Tryd.prog os ⟨#[], #[], []⟩
 { w0 with heap := (w0.heap).modify 0 fun
   | .cells _ t frozen => .cells (tabZ.map fun z => Value.int .u8 z).toArray t frozen
   | o => o }
theorem itemsStates_laid (os : Os) (args : Array Value) : laidMet Tryd.prog Rows.itemsStatesRow.laid ((itemsStates_world os).forCall (fun _ _ => 0) ⟨#[], args, []⟩).memory :=
 laidMet_of_run' 8 (by kernel_rfl) (by kernel_rfl)
theorem itemsStates_witness (os : Os) {H : Type} (enc : TypeId × Value → H) :
  (OpenSpec.ofChange Rows.itemsStatesSpec).preRow enc Tryd.prog Tryd.f4 Rows.itemsStatesRow.domain false Rows.itemsStatesRow.laid ((itemsStates_world os).forCall (fun _ _ => 0) ⟨#[], #[.agg #[.int .i64 0, .int .i64 0, .int .i64 0, .slice none 0 0, .slice none 0 0, .slice none 0 0, .slice none 0 0]], []⟩).memory #[.agg #[.int .i64 0, .int .i64 0, .int .i64 0, .slice none 0 0, .slice none 0 0, .slice none 0 0, .slice none 0 0]] := by
 have hw : (DataW.whole enc Tryd.prog ((itemsStates_world os).forCall (fun _ _ => 0) ⟨#[], #[.agg #[.int .i64 0, .int .i64 0, .int .i64 0, .slice none 0 0, .slice none 0 0, .slice none 0 0, .slice none 0 0]], []⟩).memory Tryd.f4.params.toList (OpenSpec.ofChange Rows.itemsStatesSpec).vars false (#[.agg #[.int .i64 0, .int .i64 0, .int .i64 0, .slice none 0 0, .slice none 0 0, .slice none 0 0, .slice none 0 0]] : Array Value).toList 8).map (fun x => (x.1, x.2.1)) =
   some ([.agg [.lit (.int .i64 0), .lit (.int .i64 0), .lit (.int .i64 0), .nil, .nil, .nil, .nil]], []) := by kernel_rfl
 obtain ⟨⟨x1, x2, x3⟩, hx, hx1⟩ := Option.map_eq_some_iff.1 hw
 simp only [Prod.mk.injEq] at hx1
 obtain ⟨rfl, rfl⟩ := hx1
 exact OpenSpec.preRow_of_cond 8 hx (by kernel_rfl) (fun k hk => by cases hk) (by kernel_rfl) (itemsStates_laid os _)
set_option maxRecDepth 100000 in
set_option maxHeartbeats 2000000 in
theorem itemsStates_lifted (os : Os) (started : os.Started) (H : Type) (enc : TypeId × Value → H) (F : Stop.Interp) :
  ReturnsInHanded {} Tryd.checked os 4 .any ((OpenSpec.ofChange Rows.itemsStatesSpec).preRow enc Tryd.prog Tryd.f4 Rows.itemsStatesRow.domain false Rows.itemsStatesRow.laid) (((OpenSpec.ofChange Rows.itemsStatesSpec).at F).post enc Tryd.prog Tryd.f4 false true false false) := by
 refine returnsInHanded_of_row (C := Tryd.checked) (s := OpenSpec.ofChange Rows.itemsStatesSpec) itemsStates_own started (by kernel_rfl) Tryd.func4
  (witness_row_atRef (enc := enc) (C := Tryd.checked) false (itemsStates_world os) #[.agg #[.int .i64 0, .int .i64 0, .int .i64 0, .slice none 0 0, .slice none 0 0, .slice none 0 0, .slice none 0 0]] rfl (by kernel_rfl) (by kernel_rfl) (by kernel_rfl) (itemsStates_witness os enc)) ?_
 intro W base args ds gs before hval0 hW hcnd0 _ _ hL _ _
 have hval : ∀ (j : Nat) t v, Tryd.f4.params[j]? = some t → args[j]? = some v → Value.okWide Tryd.prog W .any base t v := hval0
 have hW' := hW
 obtain ⟨p, q, hA0, hV, rfl, hfz, hnd⟩ := hW
 have hA : DataW.TrodAll enc Tryd.prog W 0 (fun _ => true) true Tryd.f4.params.toList args.toList ds p := hA0
 have hA2 : DataW.TrodAll enc Tryd.prog W 0 (fun _ => true) true [26] args.toList ds p := by rw [Tryd.params4] at hA; exact hA
 rw [Tryd.params4] at hA hval
 have htab : Tab W := by
  have h1 : Lib.TabIs Tryd.prog W "math/bits.deBruijn64tab" .u8 tabZ := Lib.tabIs_of_head (rest := []) (g := 0) (by kernel_rfl) (t := 83) (by kernel_rfl) Tryd.underlying83 Tryd.underlying5 (show Tryd.prog.cellsOf 5 = 1 by kernel_rfl) (by kernel_rfl) hL
  exact fun i hi => h1.cell (g := 0) (by kernel_rfl) i hi
 have hlaw := law_in (r := .any) (base := base) mixed K.fns_ok itemsStates_closed (show ∀ t ∈ ([26] : List Nat), t ∈ ([26, 3, 22, 23, 24, 42, 81, 27, 47] : List Nat) by decide) hA2 (fun j t v h1 h2 => hval j t v (by simpa using h1) (by simpa using h2)) (opened0 htab) K.states_model
 obtain ⟨v0, vs0, d0, ds0, p0, q0, hargs, rfl, rfl, h0, r0⟩ := trodAll_cons hA
 obtain ⟨rfl, rfl, rfl⟩ := trodAll_nil r0
 obtain rfl : args = #[v0] := by cases args; simp_all
 obtain ⟨rfl, rfl⟩ := trodVars_none hV
 have lt0 : ∀ x ∈ p0, x.block < W.heap.size := by obtain ⟨m, hm⟩ := h0; exact DataW.trod_lt m _ _ _ hm
 clear hA0 hval0 hcnd0 hA2
 refine Calls.mono hlaw fun e W' ⟨he, bel⟩ => ?_
 subst he
 have e1 : ((OpenSpec.ofChange Rows.itemsStatesSpec).at F).fn H ([d0] ++ []) = { results := [.lit (.bool true)], args := [d0] } := rfl
 refine ⟨_, rfl, _, _, _, [], (p0 ++ []), [], hW', ?_, ?_, ?_, Below.frame bel _, fun h => by cases h⟩
 ·rw [e1]; exact trodAll_mk1 (shut_bool Tryd.underlying4 _)
 ·rw [e1]; exact (trodAll_cons_mk (Below.trod itemsStates_laidOut (by kernel_rfl) (of_decide_eq_true (by kernel_rfl)) h0 bel lt0) trodAll_mk0)
 ·rw [e1]; rfl
theorem itemsStates_holds : Rows.ItemsStatesSaid :=
 OpenClaim.holds_of_cond 4 Tryd.f4 rfl rfl rfl rfl rfl rfl rfl ⟨rfl, rfl, rfl, rfl, rfl⟩ rfl rfl rfl rfl rfl (by kernel_rfl) Tryd.func4 (by kernel_rfl)
  (of_decide_eq_true (by kernel_rfl)) (by unfold Func.isWrapper; first | (rw [if_pos (by decide +kernel)]; kernel_rfl) | (rw [if_neg (by decide +kernel)]; exact ⟨rfl, rfl⟩))
  (fun os started H enc _ F0 => by rw [OpenClaim.pre_eq_preRow]; exact itemsStates_lifted os started H enc F0)
set_option maxRecDepth 100000 in
theorem itemsStates_card : Rows.ItemsStatesCardSaid :=
 Claim7.holds_tied_plain_at .later [] [.data] true (true, "699dc2ca4a59d8ea7939adecc217b04fee70c3b4c4212f2f199459620de53599") false
  itemsStates_holds (fun _ h => by cases h) (by kernel_rfl) (fun _ h => by cases h) itemsStates_row_tie rfl ⟨rfl, rfl⟩ (by kernel_rfl) rfl
  (fun f fn hf hfn => by
   obtain rfl : f = 4 := Option.some.inj ((show Tryd.prog.funcNamed Rows.itemsStatesRow.func = some 4 by kernel_rfl).symm.trans hf) |>.symm
   obtain rfl : fn = Tryd.f4 := (Option.some.inj (Tryd.func4.symm.trans hfn)).symm
   exact ⟨by kernel_rfl, fun j t ht => by
    rw [Tryd.params4] at ht
    have hmem : t ∈ ([26] : List Nat) := by
     have := List.mem_of_getElem? (show (#[26] : Array Nat).toList[j]? = some t by simpa using ht)
     simpa using this
    have hall : ∀ t ∈ ([26] : List Nat), Tryd.prog.wantsStandIn t = false := by
     intro t hm
     simp only [List.mem_cons, List.not_mem_nil, or_false] at hm
     rcases hm with rfl
     ·exact (show Tryd.prog.wantsStandIn 26 = false by kernel_rfl)
    exact hall t hmem⟩)
  (by kernel_rfl)
end Go.Proofs.YtpdcahaggacacaaDoor
