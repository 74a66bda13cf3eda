/-
  The functions that a run comes to, as the model runs them. Conditions: none.
-/
import Derived.Test.YtnplnpemnadpoaaGreatDoorAl
import Derived.Test.YtnplnpemnadpoaaGreatDoorProg
import Derived.KernelRfl
set_option maxRecDepth 100000
namespace Go.Proofs.YtnplnpemnadpoaaGreatDoor.K
open Go Ev
def K5_0 : IC := .cond (.t q45) (.seq (.reg [⟨some q2, none, .mov (.c (.b false))⟩]) .ret) .skip
def K5_1 : IC := .reg [⟨some q46, none, .mov (.t q5)⟩, ⟨some q47, none, .binI .add (.t q46) (.c (.i .i64 1))⟩, ⟨some q5, none, .mov (.t q47)⟩]
def K5_2 : IC := .seq (.seq (.dreg 0 [(⟨some q31, none, .mov (.t q5)⟩, .pu), (⟨some q32, none, .mov (.t q4)⟩, .pu), (⟨some q33, none, .len (.t q32)⟩, .pu), (⟨some q34, none, .binI .geq (.t q31) (.t q33)⟩, .pu), (⟨some q35, none, .mov (.t q34)⟩, .pu), (⟨some q36, some (q35, false), .mov (.t q4)⟩, .pu), (⟨some q37, some (q35, false), .mov (.t q5)⟩, .pu), (⟨some q38, some (q35, false), .ixS 5 (.t q36) (.t q37)⟩, .pu), (⟨some q39, some (q35, false), .ldN 5 (.t q38)⟩, .rd 0), (⟨some q40, some (q35, false), .mov (.t q0)⟩, .pu), (⟨some q41, some (q35, false), .mov (.t q6)⟩, .pu), (⟨some q42, some (q35, false), .ixS 5 (.t q40) (.t q41)⟩, .pu), (⟨some q43, some (q35, false), .ldN 5 (.t q42)⟩, .rd 0)] [⟨some q44, some (q35, false), .pu2 (.eqA 5 true) (.t q39) (.t q43)⟩, ⟨some q45, none, .pick (.t q35) (.c (.b true)) (.t q44)⟩] []) K5_0) K5_1
def K5_3 : IC := .reg [⟨some q23, none, .mov (.t q6)⟩, ⟨some q24, none, .binI .add (.t q23) (.c (.i .i64 1))⟩, ⟨some q6, none, .mov (.t q24)⟩]
def K5_4 : IC := .seq (.block 1 (.seq (.seq (.reg [⟨some q25, none, .mov (.t q0)⟩, ⟨some q26, none, .mov (.t q6)⟩, ⟨some q27, none, .ixS 5 (.t q25) (.t q26)⟩, ⟨some q28, none, .fa 0 (.t q27)⟩, ⟨some q29, none, .ld1 (.t q28)⟩, ⟨some q30, none, .binI .eql (.t q29) (.c (.i .i64 (.negSucc 0)))⟩]) (.cond (.t q30) (.exit 1) .skip)) K5_2)) K5_3
def L5_5 : IC := .seq (.seq (.reg [⟨some q19, none, .mov (.t q6)⟩, ⟨some q20, none, .mov (.t q0)⟩, ⟨some q21, none, .len (.t q20)⟩, ⟨some q22, none, .binI .lss (.t q19) (.t q21)⟩]) (.cond (.t q22) .skip (.exit 0))) K5_4
def K5_6 : IC := .seq (.reg [⟨some q48, none, .mov (.t q5)⟩, ⟨some q49, none, .mov (.t q4)⟩, ⟨some q50, none, .len (.t q49)⟩, ⟨some q51, none, .binI .eql (.t q48) (.t q50)⟩, ⟨some q2, none, .mov (.t q51)⟩]) .ret
def K5_7 : IC := .seq (.reg [⟨some q16, none, .mov (.t q0)⟩, ⟨some q17, none, .app 5 40 (.c .nils) (.t q16)⟩, ⟨some q18, none, .call 13 [.t q17]⟩, ⟨some q4, none, .mov (.t q18)⟩]) (.seq (.reg [⟨some q5, none, .mov (.c (.i .i64 0))⟩]) (.seq (.seq (.reg [⟨some q6, none, .mov (.c (.i .i64 0))⟩]) (.block 0 (.loop L5_5))) K5_6))
def B5 : IC := .seq (.reg [⟨some q2, none, .mov (.c (.b false))⟩]) (.seq (.reg [⟨some q7, none, .call 7 []⟩, ⟨some q3, none, .mov (.t q7)⟩]) (.seq (.seq (.reg [⟨some q8, none, .mov (.t q3)⟩, ⟨some q9, none, .un .not (.t q8)⟩, ⟨some q10, none, .mov (.t q9)⟩, ⟨some q11, some (q10, false), .mov (.t q0)⟩, ⟨some q12, some (q10, false), .len (.t q11)⟩, ⟨some q13, some (q10, false), .binI .gtr (.t q12) (.c (.i .i64 200))⟩, ⟨some q14, none, .pick (.t q10) (.c (.b true)) (.t q13)⟩]) (.cond (.t q14) (.seq (.reg [⟨some q15, none, .mov (.t q3)⟩, ⟨some q2, none, .mov (.t q15)⟩]) .ret) .skip)) K5_7))
def F5 : IFn := ⟨52, [.tmp q2], B5⟩
theorem R5 : F5.res = [.tmp q2] := rfl
theorem Z5 : F5.sz = 52 := rfl
theorem fits5 : FitsF Tryz.prog 5 F5 := cmpF_fits (pol := fun _ => false) Tryz.func5 (by kernel_rfl)
abbrev F7 : IFn := Ftab tabZ
theorem fits7 : FitsF Tryz.prog 7 F7 := .inr sem_alive
def K13_0 : IC := .reg [⟨some q19, none, .binI .add (.t q8) (.c (.i .i64 1))⟩, ⟨some q8, none, .mov (.t q19)⟩]
def K13_1 : IC := .seq (.block 1 (.seq (.reg [⟨some q10, none, .ixS 5 (.t q6) (.t q8)⟩, ⟨some q11, none, .ldN 5 (.t q10)⟩, ⟨some q5, none, .new [.i .i64 0, .i .i64 0, .i .i64 0, .i .i64 0, .i .i64 0]⟩, ⟨none, none, .st 5 (.t q5) (.t q11)⟩]) (.seq (.reg [⟨some q12, none, .fa 0 (.t q5)⟩, ⟨some q13, none, .ld1 (.t q12)⟩, ⟨some q14, none, .binI .neq (.t q13) (.c (.i .i64 (.negSucc 0)))⟩]) (.cond (.t q14) (.reg [⟨some q15, none, .mov (.t q3)⟩, ⟨some q16, none, .ldN 5 (.t q5)⟩, ⟨some q17, none, .bsl 5 1 [.i .i64 0, .i .i64 0, .i .i64 0, .i .i64 0, .i .i64 0] [(0, 5, .t q16)]⟩, ⟨some q18, none, .app 5 40 (.t q15) (.t q17)⟩, ⟨some q3, none, .mov (.t q18)⟩]) .skip)))) K13_0
def L13_2 : IC := .seq (.reg [⟨some q9, none, .binI .lss (.t q8) (.t q7)⟩]) (.seq (.cond (.t q9) .skip (.exit 0)) K13_1)
def K13_3 : IC := .seq (.reg [⟨some q20, none, .mov (.t q3)⟩, ⟨some q2, none, .mov (.t q20)⟩]) .ret
def B13 : IC := .seq (.reg [⟨some q2, none, .mov (.c .nils)⟩]) (.seq (.reg [⟨some q3, none, .mov (.c .nils)⟩]) (.seq (.seq (.reg [⟨some q6, none, .mov (.t q0)⟩, ⟨some q7, none, .len (.t q6)⟩, ⟨some q8, none, .mov (.c (.i .i64 0))⟩]) (.block 0 (.loop L13_2))) K13_3))
def F13 : IFn := ⟨21, [.tmp q2], B13⟩
theorem R13 : F13.res = [.tmp q2] := rfl
theorem Z13 : F13.sz = 21 := rfl
theorem fits13 : FitsF Tryz.prog 13 F13 := cmpF_fits (pol := fun _ => false) Tryz.func13 (by kernel_rfl)
def fnsL : List (Nat × IFn) := [(5, F5), (7, F7), (13, F13)]
def fnsT : T IFn := ⟨⟨none, none, none, none, none, some F5, none, some F7, none, none, none, none, none, some F13, none, none⟩, none, none, none, .lf⟩
theorem fnsT_eq : fnsT = mkT fnsL := by kernel_rfl
noncomputable def fns (g : Nat) : Option IFn := idK fnsT g
theorem fns_ok : ∀ g fn, fns g = some fn → FitsF Tryz.prog g fn :=
  fits_of fnsT_eq fun x hx => by
    unfold fnsL at hx
    simp only [List.mem_cons, List.not_mem_nil, or_false] at hx
    rcases hx with rfl | rfl | rfl
    · exact fits5
    · exact fits7
    · exact fits13
end Go.Proofs.YtnplnpemnadpoaaGreatDoor.K
