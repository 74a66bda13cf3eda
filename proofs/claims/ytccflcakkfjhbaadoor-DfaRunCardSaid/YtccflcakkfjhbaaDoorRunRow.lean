/-
  For every value that reads as an automaton, also one that is none, and for every bytes, the law DfaRun returns true, and its arguments read as before. Conditions: none but what the card ties: the listed package variables read as the program's text lays them.
-/
import Derived.Test.YtccflcakkfjhbaaDoorOpenD
import Derived.Test.YtccflcakkfjhbaaDoorLawRun
import Derived.Test.YtccflcakkfjhbaaDoorTie
import Derived.Test.YtccflcakkfjhbaaDoorCards
import Derived.Deep.DeepHandedRow
import Derived.Deep.DeepWitnessRowRef
import Derived.ProofKit
import Derived.SizedLaws
import Derived.Lib.LaidTab
import Derived.LaidHandle
namespace Go.Proofs.YtccflcakkfjhbaaDoor
open Go Go.RowKit Go.ChangeShapes Go.WideShapes Go.ChangeAt Kit
noncomputable def dfaRun_world (os : Os) : World :=
  let w0 := World.holding Tryd.prog os ⟨#[], #[], []⟩
  { w0 with heap := (w0.heap).modify 0 fun
      | .cells _ t frozen => .cells (tabZ.map fun z => Value.int .u8 z).toArray t frozen
      | o => o }
theorem dfaRun_laid (os : Os) (args : Array Value) : laidMet Tryd.prog Rows.dfaRunRow.laid ((dfaRun_world os).forCall (fun _ _ => 0) ⟨#[], args, []⟩).memory :=
  laidMet_of_run' 8 (by kernel_rfl) (by kernel_rfl)
theorem dfaRun_witness (os : Os) {H : Type} (enc : TypeId × Value → H) :
    (OpenSpec.ofChange Rows.dfaRunSpec).preRow enc Tryd.prog Tryd.f3 Rows.dfaRunRow.domain false Rows.dfaRunRow.laid ((dfaRun_world os).forCall (fun _ _ => 0) ⟨#[], #[.agg #[.slice none 0 0, .slice none 0 0], .slice none 0 0], []⟩).memory #[.agg #[.slice none 0 0, .slice none 0 0], .slice none 0 0] := by
  have hw : (DataW.whole enc Tryd.prog ((dfaRun_world os).forCall (fun _ _ => 0) ⟨#[], #[.agg #[.slice none 0 0, .slice none 0 0], .slice none 0 0], []⟩).memory Tryd.f3.params.toList (OpenSpec.ofChange Rows.dfaRunSpec).vars false (#[.agg #[.slice none 0 0, .slice none 0 0], .slice none 0 0] : Array Value).toList 8).map (fun x => (x.1, x.2.1)) =
      some ([.agg [.nil, .nil], .nil], []) := by kernel_rfl
  obtain ⟨⟨x1, x2, x3⟩, hx, hx1⟩ := Option.map_eq_some_iff.1 hw
  simp only [Prod.mk.injEq] at hx1
  obtain ⟨rfl, rfl⟩ := hx1
  exact OpenSpec.preRow_of_cond 8 hx (by kernel_rfl) (fun k hk => by cases hk) (by kernel_rfl) (dfaRun_laid os _)
set_option maxRecDepth 100000 in
set_option maxHeartbeats 2000000 in
theorem dfaRun_lifted (os : Os) (started : os.Started) (H : Type) (enc : TypeId × Value → H) (F : Stop.Interp) :
    ReturnsInHanded {} Tryd.checked os 3 .any ((OpenSpec.ofChange Rows.dfaRunSpec).preRow enc Tryd.prog Tryd.f3 Rows.dfaRunRow.domain false Rows.dfaRunRow.laid) (((OpenSpec.ofChange Rows.dfaRunSpec).at F).post enc Tryd.prog Tryd.f3 false true false false) := by
  refine returnsInHanded_of_row (C := Tryd.checked) (s := OpenSpec.ofChange Rows.dfaRunSpec) own started (by kernel_rfl) Tryd.func3
    (witness_row_atRef (enc := enc) (C := Tryd.checked) false (dfaRun_world os) #[.agg #[.slice none 0 0, .slice none 0 0], .slice none 0 0] rfl (by kernel_rfl) (by kernel_rfl) (by kernel_rfl) (dfaRun_witness os enc)) ?_
  intro W base args ds gs before hval0 hW hcnd0 _ _ hL _ _
  have hval : ∀ (j : Nat) t v, Tryd.f3.params[j]? = some t → args[j]? = some v → Value.okWide Tryd.prog W .any base t v := hval0
  have hW' := hW
  obtain ⟨p, q, hA0, hV, rfl, hfz, hnd⟩ := hW
  have hA : DataW.TrodAll enc Tryd.prog W 0 (fun _ => true) true Tryd.f3.params.toList args.toList ds p := hA0
  rw [Tryd.params3] at hA hval
  obtain ⟨v0, vs0, d0, ds0, p0, q0, hargs, rfl, rfl, h0, r0⟩ := trodAll_cons hA
  obtain ⟨v1, vs1, d1, ds1, p1, q1, rfl, rfl, rfl, h1, r1⟩ := trodAll_cons r0
  obtain ⟨rfl, rfl, rfl⟩ := trodAll_nil r1
  obtain rfl : args = #[v0, v1] := by cases args; simp_all
  obtain ⟨rfl, rfl⟩ := trodVars_none hV
  have lt0 : ∀ x ∈ p0, x.block < W.heap.size := by obtain ⟨m, hm⟩ := h0; exact DataW.trod_lt m _ _ _ hm
  have lt1 : ∀ x ∈ p1, x.block < W.heap.size := by obtain ⟨m, hm⟩ := h1; exact DataW.trod_lt m _ _ _ hm
  obtain ⟨vn0, va0, x0, vs0, rfl, hd0⟩ := dfa_in (hval 0 25 v0 rfl rfl) h0
  obtain ⟨b1, hb1⟩ := bytes_in h1 (okWide_slice Tryd.underlying26 (hval 1 26 v1 rfl rfl))
  have htab : Tab W := by
    have h1 : Lib.TabIs Tryd.prog W "math/bits.deBruijn64tab" .u8 tabZ := Lib.tabIs_of_head (rest := []) (g := 0) (by kernel_rfl) (t := 137) (by kernel_rfl) Tryd.underlying137 Tryd.underlying5 cells5 (by kernel_rfl) hL
    exact fun i hi => h1.cell (g := 0) (by kernel_rfl) i hi
  clear hA0 hval0 hcnd0
  refine (law_any vn0 va0 x0 vs0 _ b1 W hd0 hb1 htab).mono fun e W' ⟨he, bel⟩ => ?_
  subst he
  have e1 : ((OpenSpec.ofChange Rows.dfaRunSpec).at F).fn H ([d0, d1] ++ []) = { results := [.lit (.bool true)], args := [d0, d1] } := rfl
  refine ⟨_, rfl, _, _, _, [], (p0 ++ (p1 ++ [])), [], hW', ?_, ?_, ?_, Below.frame bel _, fun h => by cases h⟩
  · rw [e1]; exact trodAll_mk1 (shut_bool Tryd.underlying4 _)
  · rw [e1]; exact (trodAll_cons_mk (Below.trod laidOut (by kernel_rfl) (of_decide_eq_true (by kernel_rfl)) h0 bel lt0) (trodAll_cons_mk (Below.trod laidOut (by kernel_rfl) (of_decide_eq_true (by kernel_rfl)) h1 bel lt1) trodAll_mk0))
  · rw [e1]; rfl
theorem dfaRun_holds : Rows.DfaRunSaid :=
  OpenClaim.holds_of_cond 3 Tryd.f3 rfl rfl rfl rfl rfl rfl rfl ⟨rfl, rfl, rfl, rfl, rfl⟩ rfl rfl rfl rfl rfl (by kernel_rfl) Tryd.func3 (by kernel_rfl)
    (of_decide_eq_true (by kernel_rfl)) (by unfold Func.isWrapper; first | (rw [if_pos (by decide +kernel)]; kernel_rfl) | (rw [if_neg (by decide +kernel)]; exact ⟨rfl, rfl⟩))
    (fun os started H enc _ F0 => by rw [OpenClaim.pre_eq_preRow]; exact dfaRun_lifted os started H enc F0)
set_option maxRecDepth 100000 in
theorem dfaRun_card : Rows.DfaRunCardSaid :=
  Claim7.holds_tied_plain_at .later [] [.data] true (true, "0c01d7c6f3c2581507327497c7402a6950ad9c2765d16c08f17f508cbd037f47") false
    dfaRun_holds (fun _ h => by cases h) (by kernel_rfl) (fun _ h => by cases h) dfaRun_row_tie rfl ⟨rfl, rfl⟩ (by kernel_rfl) rfl
    (fun f fn hf hfn => by
      obtain rfl : f = 3 := Option.some.inj ((show Tryd.prog.funcNamed Rows.dfaRunRow.func = some 3 by kernel_rfl).symm.trans hf) |>.symm
      obtain rfl : fn = Tryd.f3 := (Option.some.inj (Tryd.func3.symm.trans hfn)).symm
      exact ⟨by kernel_rfl, fun j t ht => by
        rw [Tryd.params3] at ht
        have hmem : t ∈ ([25, 26] : List Nat) := by
          have := List.mem_of_getElem? (show (#[25, 26] : Array Nat).toList[j]? = some t by simpa using ht)
          simpa using this
        have hall : ∀ t ∈ ([25, 26] : List Nat), Tryd.prog.wantsStandIn t = false := by
          intro t hm
          simp only [List.mem_cons, List.not_mem_nil, or_false] at hm
          rcases hm with rfl | rfl
          · exact (show Tryd.prog.wantsStandIn 25 = false by kernel_rfl)
          · exact (show Tryd.prog.wantsStandIn 26 = false by kernel_rfl)
        exact hall t hmem⟩)
    (by kernel_rfl)
#print axioms dfaRun_card
end Go.Proofs.YtccflcakkfjhbaaDoor
