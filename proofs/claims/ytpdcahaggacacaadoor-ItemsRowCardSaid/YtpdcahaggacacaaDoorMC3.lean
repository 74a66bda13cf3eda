/-
  What the claim leans on, part 3: The functions that a run comes to, as1 the model runs them. Conditions: none. The table of what the law ItemsRow comes to, itself. Conditions: none. The table of what alive comes to. Conditions: none. Runs without fuel: what a run of a program's text comes to with fuel enough, and rules by which this is told from the text. Conditions: none. Rules by which simp goes through a program's text. Conditions: none. Rows of elements in the model's memory: read, kept, appended to. Conditions: none. What single operations do, told for simp. Conditions: none. What comes in, read into the model's memory as1
-/
import Derived.Test.YtpdcahaggacacaaDoorMC2
import Derived.Test.YtpdcahaggacacaaDoorProg
import Derived.KernelRfl
import Derived.Deep.Slices
import Derived.Deep.Strs
import Derived.OpenShut
import Derived.DataReads
import Derived.ChangeArms
import Derived.WideShapes
set_option maxRecDepth 100000
namespace Go.Proofs.YtpdcahaggacacaaDoor.K
open Go Ev
def K5_0 : IC := .reg [⟨some q28, none, .mov (.t q5)⟩, ⟨some q29, none, .binI .add (.t q28) (.c (.i .i64 1))⟩, ⟨some q5, none, .mov (.t q29)⟩]
def K5_1 : IC := .seq (.block 1 (.dreg 0 [(⟨some q30, none, .fa 3 (.t q4)⟩, .pu), (⟨some q31, none, .ld1 (.t q30)⟩, .rd 0), (⟨some q32, none, .fa 3 (.t q4)⟩, .pu), (⟨some q33, none, .ld1 (.t q32)⟩, .rd 0), (⟨some q34, none, .ixS 3 (.t q33) (.c (.i .i64 0))⟩, .pu), (⟨some q35, none, .fa 1 (.t q34)⟩, .pu), (⟨some q36, none, .ld1 (.t q35)⟩, .rd 0), (⟨some q37, none, .mov (.t q5)⟩, .pu), (⟨some q38, none, .binI .sub (.c (.i .i64 (.negSucc 0))) (.t q37)⟩, .pu), (⟨some q39, none, .bsl 1 1 [.i .i64 0] [(0, 1, .t q38)]⟩, .ad), (⟨some q40, none, .app 1 8 (.t q36) (.t q39)⟩, .md)] [⟨some q41, none, .ixS 3 (.t q31) (.c (.i .i64 0))⟩, ⟨some q42, none, .fa 1 (.t q41)⟩, ⟨none, none, .st 1 (.t q42) (.t q40)⟩] [(10, 1)])) K5_0
def L5_2 : IC := .seq (.seq (.reg [⟨some q25, none, .mov (.t q5)⟩, ⟨some q26, none, .mov (.t q0)⟩, ⟨some q27, none, .binI .lss (.t q25) (.t q26)⟩]) (.cond (.t q27) .skip (.exit 0))) K5_1
def K5_3 : IC := .seq (.reg [⟨some q116, none, .mov (.t q6)⟩, ⟨some q117, none, .mov (.t q9)⟩, ⟨some q118, none, .ixS 3 (.t q116) (.t q117)⟩, ⟨some q119, none, .fa 1 (.t q118)⟩, ⟨some q120, none, .ld1 (.t q119)⟩, ⟨some q121, none, .len (.t q120)⟩, ⟨some q122, none, .binI .neq (.t q121) (.c (.i .i64 1))⟩, ⟨some q123, none, .mov (.t q122)⟩, ⟨some q124, some (q123, false), .mov (.t q6)⟩, ⟨some q125, some (q123, false), .mov (.t q9)⟩, ⟨some q126, some (q123, false), .ixS 3 (.t q124) (.t q125)⟩, ⟨some q127, some (q123, false), .fa 1 (.t q126)⟩, ⟨some q128, some (q123, false), .ld1 (.t q127)⟩, ⟨some q129, some (q123, false), .ixS 1 (.t q128) (.c (.i .i64 0))⟩, ⟨some q130, some (q123, false), .ld1 (.t q129)⟩, ⟨some q131, some (q123, false), .mov (.t q8)⟩, ⟨some q132, some (q123, false), .binI .sub (.c (.i .i64 (.negSucc 0))) (.t q131)⟩, ⟨some q133, some (q123, false), .binI .neq (.t q130) (.t q132)⟩, ⟨some q134, none, .pick (.t q123) (.c (.b true)) (.t q133)⟩, ⟨some q135, none, .mov (.t q134)⟩, ⟨some q136, some (q135, false), .mov (.t q6)⟩, ⟨some q137, some (q135, false), .mov (.t q9)⟩, ⟨some q138, some (q135, false), .ixS 3 (.t q136) (.t q137)⟩, ⟨some q139, some (q135, false), .fa 2 (.t q138)⟩, ⟨some q140, some (q135, false), .ld1 (.t q139)⟩, ⟨some q141, some (q135, false), .ixS 1 (.t q140) (.c (.i .i64 0))⟩, ⟨some q142, some (q135, false), .ld1 (.t q141)⟩, ⟨some q143, some (q135, false), .mov (.t q8)⟩, ⟨some q144, some (q135, false), .binI .add (.t q143) (.c (.i .i64 2))⟩, ⟨some q145, some (q135, false), .binI .neq (.t q142) (.t q144)⟩, ⟨some q146, none, .pick (.t q135) (.c (.b true)) (.t q145)⟩]) (.cond (.t q146) (.seq (.reg [⟨some q2, none, .mov (.c (.b false))⟩]) .ret) .skip)
def K5_4 : IC := .seq (.seq (.reg [⟨some q112, none, .mov (.t q9)⟩, ⟨some q113, none, .binI .gtr (.t q112) (.c (.i .i64 1))⟩]) (.cond (.t q113) (.reg [⟨some q114, none, .mov (.t q8)⟩, ⟨some q115, none, .binI .add (.t q114) (.c (.i .i64 1))⟩, ⟨some q9, none, .mov (.t q115)⟩]) .skip)) K5_3
def K5_5 : IC := .seq (.seq (.reg [⟨some q68, none, .mov (.t q8)⟩, ⟨some q69, none, .binI .eql (.t q68) (.c (.i .i64 0))⟩]) (.cond (.t q69) (.seq (.seq (.reg [⟨some q70, none, .mov (.t q6)⟩, ⟨some q71, none, .ixS 3 (.t q70) (.c (.i .i64 0))⟩, ⟨some q72, none, .fa 1 (.t q71)⟩, ⟨some q73, none, .ld1 (.t q72)⟩, ⟨some q74, none, .len (.t q73)⟩, ⟨some q75, none, .binI .neq (.t q74) (.c (.i .i64 2))⟩, ⟨some q76, none, .mov (.t q75)⟩, ⟨some q77, some (q76, false), .mov (.t q6)⟩, ⟨some q78, some (q76, false), .ixS 3 (.t q77) (.c (.i .i64 0))⟩, ⟨some q79, some (q76, false), .fa 1 (.t q78)⟩, ⟨some q80, some (q76, false), .ld1 (.t q79)⟩, ⟨some q81, some (q76, false), .ixS 1 (.t q80) (.c (.i .i64 0))⟩, ⟨some q82, some (q76, false), .ld1 (.t q81)⟩, ⟨some q83, some (q76, false), .binI .neq (.t q82) (.c (.i .i64 (.negSucc 0)))⟩, ⟨some q84, none, .pick (.t q76) (.c (.b true)) (.t q83)⟩, ⟨some q85, none, .mov (.t q84)⟩, ⟨some q86, some (q85, false), .mov (.t q6)⟩, ⟨some q87, some (q85, false), .ixS 3 (.t q86) (.c (.i .i64 0))⟩, ⟨some q88, some (q85, false), .fa 1 (.t q87)⟩, ⟨some q89, some (q85, false), .ld1 (.t q88)⟩, ⟨some q90, some (q85, false), .ixS 1 (.t q89) (.c (.i .i64 1))⟩, ⟨some q91, some (q85, false), .ld1 (.t q90)⟩, ⟨some q92, some (q85, false), .binI .neq (.t q91) (.c (.i .i64 0))⟩, ⟨some q93, none, .pick (.t q85) (.c (.b true)) (.t q92)⟩, ⟨some q94, none, .mov (.t q93)⟩, ⟨some q95, some (q94, false), .mov (.t q6)⟩, ⟨some q96, some (q94, false), .ixS 3 (.t q95) (.c (.i .i64 0))⟩, ⟨some q97, some (q94, false), .fa 2 (.t q96)⟩, ⟨some q98, some (q94, false), .ld1 (.t q97)⟩, ⟨some q99, some (q94, false), .ixS 1 (.t q98) (.c (.i .i64 0))⟩, ⟨some q100, some (q94, false), .ld1 (.t q99)⟩, ⟨some q101, some (q94, false), .binI .neq (.t q100) (.c (.i .i64 1))⟩, ⟨some q102, none, .pick (.t q94) (.c (.b true)) (.t q101)⟩, ⟨some q103, none, .mov (.t q102)⟩, ⟨some q104, some (q103, false), .mov (.t q6)⟩, ⟨some q105, some (q103, false), .ixS 3 (.t q104) (.c (.i .i64 0))⟩, ⟨some q106, some (q103, false), .fa 2 (.t q105)⟩, ⟨some q107, some (q103, false), .ld1 (.t q106)⟩, ⟨some q108, some (q103, false), .ixS 1 (.t q107) (.c (.i .i64 1))⟩, ⟨some q109, some (q103, false), .ld1 (.t q108)⟩, ⟨some q110, some (q103, false), .binI .neq (.t q109) (.c (.i .i64 2))⟩, ⟨some q111, none, .pick (.t q103) (.c (.b true)) (.t q110)⟩]) (.cond (.t q111) (.seq (.reg [⟨some q2, none, .mov (.c (.b false))⟩]) .ret) .skip)) (.exit 3)) .skip)) K5_4
def K5_6 : IC := .reg [⟨some q61, none, .mov (.t q8)⟩, ⟨some q62, none, .binI .add (.t q61) (.c (.i .i64 1))⟩, ⟨some q8, none, .mov (.t q62)⟩]
def K5_7 : IC := .seq (.block 3 (.seq (.reg [⟨some q9, none, .mov (.c (.i .i64 0))⟩]) (.seq (.seq (.reg [⟨some q63, none, .mov (.t q8)⟩, ⟨some q64, none, .binI .gtr (.t q63) (.c (.i .i64 0))⟩]) (.cond (.t q64) (.seq (.reg [⟨some q65, none, .mov (.t q8)⟩, ⟨some q9, none, .mov (.t q65)⟩]) (.seq (.reg [⟨some q66, none, .mov (.t q8)⟩, ⟨some q67, none, .binI .eql (.t q66) (.c (.i .i64 1))⟩]) (.cond (.t q67) (.reg [⟨some q9, none, .mov (.c (.i .i64 1))⟩]) .skip))) .skip)) K5_5))) K5_6
def L5_8 : IC := .seq (.seq (.reg [⟨some q58, none, .mov (.t q8)⟩, ⟨some q59, none, .mov (.t q0)⟩, ⟨some q60, none, .binI .lss (.t q58) (.t q59)⟩]) (.cond (.t q60) .skip (.exit 2))) K5_7
def K5_9 : IC := .seq (.reg [⟨some q2, none, .mov (.c (.b true))⟩]) .ret
def K5_10 : IC := .seq (.seq (.reg [⟨some q8, none, .mov (.c (.i .i64 0))⟩]) (.block 2 (.loop L5_8))) K5_9
def K5_11 : IC := .seq (.reg [⟨some q44, none, .ldN 7 (.t q4)⟩, ⟨some q45, none, .call 11 [.t q44]⟩, ⟨some q43, none, .mov (.t q45)⟩, ⟨some q46, none, .ext (.t q43) 0⟩, ⟨some q47, none, .ext (.t q43) 1⟩, ⟨some q6, none, .mov (.t q46)⟩, ⟨some q7, none, .mov (.t q47)⟩]) (.seq (.seq (.reg [⟨some q48, none, .mov (.t q7)⟩, ⟨some q49, none, .call 14 [.t q48]⟩, ⟨some q50, none, .binI .neq (.t q49) (.c (.i .i64 0))⟩, ⟨some q51, none, .mov (.t q50)⟩, ⟨some q52, some (q51, false), .mov (.t q6)⟩, ⟨some q53, some (q51, false), .len (.t q52)⟩, ⟨some q54, some (q51, false), .mov (.t q0)⟩, ⟨some q55, some (q51, false), .binI .add (.t q54) (.c (.i .i64 2))⟩, ⟨some q56, some (q51, false), .binI .neq (.t q53) (.t q55)⟩, ⟨some q57, none, .pick (.t q51) (.c (.b true)) (.t q56)⟩]) (.cond (.t q57) (.seq (.reg [⟨some q2, none, .mov (.c (.b false))⟩]) .ret) .skip)) K5_10)
def K5_12 : IC := .seq (.reg [⟨some q22, none, .build [.i .i64 0, .nils, .i .i64 0] []⟩, ⟨some q23, none, .bsl 3 1 [.i .i64 0, .nils, .i .i64 0] [(0, 3, .t q22)]⟩, ⟨some q24, none, .build [.i .i64 0, .i .i64 0, .i .i64 0, .nils, .nils, .nils, .nils] [(0, 1, .c (.i .i64 1)), (1, 1, .c (.i .i64 8)), (3, 1, .t q23)]⟩, ⟨some q4, none, .new [.i .i64 0, .i .i64 0, .i .i64 0, .nils, .nils, .nils, .nils]⟩, ⟨none, none, .st 7 (.t q4) (.t q24)⟩]) (.seq (.seq (.reg [⟨some q5, none, .mov (.c (.i .i64 0))⟩]) (.block 0 (.loop L5_2))) K5_11)
def B5 : IC := .seq (.reg [⟨some q2, none, .mov (.c (.b false))⟩]) (.seq (.reg [⟨some q10, none, .call 6 []⟩, ⟨some q3, none, .mov (.t q10)⟩]) (.seq (.seq (.reg [⟨some q11, none, .mov (.t q3)⟩, ⟨some q12, none, .un .not (.t q11)⟩, ⟨some q13, none, .mov (.t q12)⟩, ⟨some q14, some (q13, false), .mov (.t q0)⟩, ⟨some q15, some (q13, false), .binI .lss (.t q14) (.c (.i .i64 0))⟩, ⟨some q16, none, .pick (.t q13) (.c (.b true)) (.t q15)⟩, ⟨some q17, none, .mov (.t q16)⟩, ⟨some q18, some (q17, false), .mov (.t q0)⟩, ⟨some q19, some (q17, false), .binI .gtr (.t q18) (.c (.i .i64 8))⟩, ⟨some q20, none, .pick (.t q17) (.c (.b true)) (.t q19)⟩]) (.cond (.t q20) (.seq (.reg [⟨some q21, none, .mov (.t q3)⟩, ⟨some q2, none, .mov (.t q21)⟩]) .ret) .skip)) K5_12))
def F5 : IFn := ⟨147, [.tmp q2], B5⟩
theorem R5 : F5.res = [.tmp q2] := rfl
theorem fits5 : FitsF Tryd.prog 5 F5 := cmpF_fits (pol := fun _ => false) Tryd.func5 (by kernel_rfl)
def B6 : IC := .seq (.reg [⟨some q0, none, .mov (.c (.b false))⟩]) (.seq (.reg [⟨some q4, none, .bsl 1 1 [.i .i64 0] [(0, 1, .c (.i .i64 (.negSucc 0)))]⟩, ⟨some q5, none, .build [.i .i64 0, .nils, .i .i64 0] [(1, 1, .t q4)]⟩, ⟨some q6, none, .bsl 3 1 [.i .i64 0, .nils, .i .i64 0] [(0, 3, .t q5)]⟩, ⟨some q7, none, .build [.i .i64 0, .i .i64 0, .i .i64 0, .nils, .nils, .nils, .nils] [(0, 1, .c (.i .i64 1)), (1, 1, .c (.i .i64 1)), (3, 1, .t q6)]⟩, ⟨some q8, none, .call 11 [.t q7]⟩, ⟨some q3, none, .mov (.t q8)⟩, ⟨some q9, none, .ext (.t q3) 0⟩, ⟨some q10, none, .ext (.t q3) 1⟩, ⟨some q1, none, .mov (.t q9)⟩, ⟨some q2, none, .mov (.t q10)⟩]) (.seq (.reg [⟨some q11, none, .build [.i .i64 0, .i .i64 0, .i .i64 0, .nils, .nils, .nils, .nils] []⟩, ⟨some q12, none, .call 9 [.t q11, .c .nils]⟩, ⟨some q13, none, .len (.t q12)⟩, ⟨some q14, none, .binI .eql (.t q13) (.c (.i .i64 0))⟩, ⟨some q15, none, .mov (.t q14)⟩, ⟨some q16, some (q15, true), .mov (.t q2)⟩, ⟨some q17, some (q15, true), .call 14 [.t q16]⟩, ⟨some q18, some (q15, true), .binI .eql (.t q17) (.c (.i .i64 0))⟩, ⟨some q19, none, .pick (.t q15) (.t q18) (.c (.b false))⟩, ⟨some q20, none, .mov (.t q19)⟩, ⟨some q21, some (q20, true), .mov (.t q1)⟩, ⟨some q22, some (q20, true), .len (.t q21)⟩, ⟨some q23, some (q20, true), .binI .eql (.t q22) (.c (.i .i64 3))⟩, ⟨some q24, none, .pick (.t q20) (.t q23) (.c (.b false))⟩, ⟨some q25, none, .mov (.t q24)⟩, ⟨some q26, some (q25, true), .mov (.t q1)⟩, ⟨some q27, some (q25, true), .ixS 3 (.t q26) (.c (.i .i64 0))⟩, ⟨some q28, some (q25, true), .fa 1 (.t q27)⟩, ⟨some q29, some (q25, true), .ld1 (.t q28)⟩, ⟨some q30, some (q25, true), .len (.t q29)⟩, ⟨some q31, some (q25, true), .binI .eql (.t q30) (.c (.i .i64 2))⟩, ⟨some q32, none, .pick (.t q25) (.t q31) (.c (.b false))⟩, ⟨some q0, none, .mov (.t q32)⟩]) .ret))
def F6 : IFn := ⟨33, [.tmp q0], B6⟩
theorem fits6 : FitsF Tryd.prog 6 F6 := cmpF_fits (pol := fun _ => false) Tryd.func6 (by kernel_rfl)
def K9_0 : IC := .reg [⟨some q22, none, .binI .add (.t q13) (.c (.i .i64 1))⟩, ⟨some q13, none, .mov (.t q22)⟩]
def K9_1 : IC := .seq (.block 1 (.seq (.reg [⟨some q15, none, .ixS 2 (.t q11) (.t q13)⟩, ⟨some q16, none, .ldN 2 (.t q15)⟩, ⟨some q7, none, .new [.i .i64 0, .i .i64 0]⟩, ⟨none, none, .st 2 (.t q7) (.t q16)⟩]) (.seq (.reg [⟨some q17, none, .ldN 7 (.t q2)⟩, ⟨some q18, none, .ldN 2 (.t q7)⟩, ⟨some q19, none, .call 16 [.t q17, .t q18]⟩]) (.cond (.t q19) (.reg [⟨some q20, none, .ldN 2 (.t q7)⟩, ⟨some q21, none, .call 17 [.t q5, .t q20]⟩]) .skip)))) K9_0
def L9_2 : IC := .seq (.reg [⟨some q14, none, .binI .lss (.t q13) (.t q12)⟩]) (.seq (.cond (.t q14) .skip (.exit 0)) K9_1)
def K9_3 : IC := .seq (.reg [⟨some q23, none, .ldN 7 (.t q2)⟩, ⟨some q24, none, .ldN 9 (.t q5)⟩, ⟨some q25, none, .call 18 [.t q23, .t q24]⟩, ⟨some q26, none, .call 19 [.t q25]⟩, ⟨some q4, none, .mov (.t q26)⟩]) .ret
def K9_4 : IC := .seq (.reg [⟨some q5, none, .new [.i .u64 0, .i .u64 0, .i .u64 0, .i .u64 0, .i .u64 0, .i .u64 0, .i .u64 0, .i .u64 0, .i .u64 0]⟩]) (.seq (.seq (.reg [⟨some q11, none, .mov (.t q1)⟩, ⟨some q12, none, .len (.t q11)⟩, ⟨some q13, none, .mov (.c (.i .i64 0))⟩]) (.block 0 (.loop L9_2))) K9_3)
def B9 : IC := .seq (.reg [⟨some q2, none, .box (.t q0)⟩, ⟨some q4, none, .mov (.c .nils)⟩]) (.seq (.seq (.reg [⟨some q8, none, .ldN 7 (.t q2)⟩, ⟨some q9, none, .call 15 [.t q8]⟩, ⟨some q10, none, .un .not (.t q9)⟩]) (.cond (.t q10) (.seq (.reg [⟨some q4, none, .mov (.c .nils)⟩]) .ret) .skip)) K9_4)
def F9 : IFn := ⟨27, [.tmp q4], B9⟩
theorem R9 : F9.res = [.tmp q4] := rfl
theorem fits9 : FitsF Tryd.prog 9 F9 := cmpF_fits (pol := fun _ => false) Tryd.func9 (by kernel_rfl)
def K11_0 : IC := .reg [⟨some q29, none, .mov (.t q8)⟩, ⟨some q30, none, .binI .add (.t q29) (.c (.i .i64 1))⟩, ⟨some q8, none, .mov (.t q30)⟩]
def K11_1 : IC := .seq (.block 1 (.seq (.reg [⟨some q31, none, .mov (.t q8)⟩, ⟨some q32, none, .call 26 [.t q7, .t q31]⟩]) (.seq (.reg [⟨some q33, none, .fa 7 (.t q7)⟩, ⟨some q34, none, .ld1 (.t q33)⟩, ⟨some q35, none, .len (.t q34)⟩, ⟨some q36, none, .binI .gtr (.t q35) (.c (.i .i64 2000))⟩]) (.cond (.t q36) (.seq (.reg [⟨some q2, none, .mov (.c .nils)⟩, ⟨some q3, none, .mov (.c (.i .i64 3))⟩]) .ret) .skip)))) K11_0
def L11_2 : IC := .seq (.seq (.reg [⟨some q24, none, .mov (.t q8)⟩, ⟨some q25, none, .fa 7 (.t q7)⟩, ⟨some q26, none, .ld1 (.t q25)⟩, ⟨some q27, none, .len (.t q26)⟩, ⟨some q28, none, .binI .lss (.t q24) (.t q27)⟩]) (.cond (.t q28) .skip (.exit 0))) K11_1
def K11_3 : IC := .seq (.reg [⟨some q37, none, .fa 8 (.t q7)⟩, ⟨some q38, none, .ld1 (.t q37)⟩, ⟨some q2, none, .mov (.t q38)⟩, ⟨some q3, none, .mov (.c (.i .i64 0))⟩]) .ret
def K11_4 : IC := .seq (.reg [⟨some q6, none, .new [.i .u64 0, .i .u64 0, .i .u64 0, .i .u64 0, .i .u64 0, .i .u64 0, .i .u64 0, .i .u64 0, .i .u64 0]⟩]) (.seq (.reg [⟨some q17, none, .build [.i .i64 0, .i .i64 0] [(0, 1, .c (.i .i64 (.negSucc 0)))]⟩, ⟨some q18, none, .call 17 [.t q6, .t q17]⟩]) (.seq (.reg [⟨some q19, none, .ldN 7 (.t q1)⟩, ⟨some q20, none, .mkm⟩, ⟨some q21, none, .build [.i .i64 0, .i .i64 0, .i .i64 0, .nils, .nils, .nils, .nils, .nils, .nils, .nilm] [(0, 7, .t q19), (9, 1, .t q20)]⟩, ⟨some q7, none, .new [.i .i64 0, .i .i64 0, .i .i64 0, .nils, .nils, .nils, .nils, .nils, .nils, .nilm]⟩, ⟨none, none, .st 10 (.t q7) (.t q21)⟩]) (.seq (.reg [⟨some q22, none, .ldN 9 (.t q6)⟩, ⟨some q23, none, .call 25 [.t q7, .t q22]⟩]) (.seq (.seq (.reg [⟨some q8, none, .mov (.c (.i .i64 0))⟩]) (.block 0 (.loop L11_2))) K11_3))))
def B11 : IC := .seq (.reg [⟨some q1, none, .box (.t q0)⟩, ⟨some q2, none, .mov (.c .nils)⟩, ⟨some q3, none, .mov (.c (.i .i64 0))⟩]) (.seq (.seq (.reg [⟨some q10, none, .ldN 7 (.t q1)⟩, ⟨some q11, none, .call 24 [.t q10]⟩, ⟨some q9, none, .mov (.t q11)⟩, ⟨some q12, none, .ext (.t q9) 0⟩, ⟨some q13, none, .ext (.t q9) 1⟩, ⟨some q4, none, .mov (.t q12)⟩, ⟨some q5, none, .mov (.t q13)⟩]) (.seq (.reg [⟨some q14, none, .mov (.t q5)⟩, ⟨some q15, none, .binI .neq (.t q14) (.c (.i .i64 0))⟩]) (.cond (.t q15) (.seq (.reg [⟨some q16, none, .mov (.t q5)⟩, ⟨some q2, none, .mov (.c .nils)⟩, ⟨some q3, none, .mov (.t q16)⟩]) .ret) .skip))) K11_4)
def F11 : IFn := ⟨39, [.tmp q2, .tmp q3], B11⟩
theorem R11 : F11.res = [.tmp q2, .tmp q3] := rfl
theorem fits11 : FitsF Tryd.prog 11 F11 := cmpF_fits (pol := fun _ => false) Tryd.func11 (by kernel_rfl)
def B14 : IC := .seq (.reg [⟨some q2, none, .mov (.c (.i .i64 0))⟩]) (.seq (.reg [⟨some q3, none, .mov (.t q0)⟩, ⟨some q2, none, .mov (.t q3)⟩]) .ret)
def F14 : IFn := ⟨4, [.tmp q2], B14⟩
theorem R14 : F14.res = [.tmp q2] := rfl
theorem fits14 : FitsF Tryd.prog 14 F14 := cmpF_fits (pol := fun _ => false) Tryd.func14 (by kernel_rfl)
def B15 : IC := .seq (.reg [⟨some q1, none, .box (.t q0)⟩, ⟨some q2, none, .mov (.c (.b false))⟩]) (.seq (.reg [⟨some q6, none, .ldN 7 (.t q1)⟩, ⟨some q7, none, .call 30 [.t q6]⟩, ⟨some q5, none, .mov (.t q7)⟩, ⟨some q8, none, .ext (.t q5) 0⟩, ⟨some q9, none, .ext (.t q5) 1⟩, ⟨some q3, none, .mov (.t q8)⟩, ⟨some q4, none, .mov (.t q9)⟩]) (.seq (.reg [⟨some q10, none, .mov (.t q4)⟩, ⟨some q11, none, .binI .eql (.t q10) (.c (.i .i64 0))⟩, ⟨some q2, none, .mov (.t q11)⟩]) .ret))
def F15 : IFn := ⟨12, [.tmp q2], B15⟩
theorem R15 : F15.res = [.tmp q2] := rfl
theorem fits15 : FitsF Tryd.prog 15 F15 := cmpF_fits (pol := fun _ => false) Tryd.func15 (by kernel_rfl)
def B16 : IC := .seq (.reg [⟨some q2, none, .box (.t q0)⟩, ⟨some q3, none, .box (.t q1)⟩, ⟨some q4, none, .mov (.c (.b false))⟩]) (.seq (.dreg 0 [(⟨some q5, none, .fa 0 (.t q3)⟩, .pu), (⟨some q6, none, .ld1 (.t q5)⟩, .rd 0), (⟨some q7, none, .binI .geq (.t q6) (.c (.i .i64 (.negSucc 0)))⟩, .pu), (⟨some q8, none, .mov (.t q7)⟩, .pu), (⟨some q9, some (q8, true), .fa 0 (.t q3)⟩, .pu), (⟨some q10, some (q8, true), .ld1 (.t q9)⟩, .rd 0), (⟨some q11, some (q8, true), .fa 3 (.t q2)⟩, .pu), (⟨some q12, some (q8, true), .ld1 (.t q11)⟩, .rd 0), (⟨some q13, some (q8, true), .len (.t q12)⟩, .pu), (⟨some q14, some (q8, true), .binI .lss (.t q10) (.t q13)⟩, .pu), (⟨some q15, none, .pick (.t q8) (.t q14) (.c (.b false))⟩, .pu), (⟨some q16, none, .mov (.t q15)⟩, .pu), (⟨some q17, some (q16, true), .fa 1 (.t q3)⟩, .pu), (⟨some q18, some (q16, true), .ld1 (.t q17)⟩, .rd 0), (⟨some q19, some (q16, true), .binI .geq (.t q18) (.c (.i .i64 0))⟩, .pu), (⟨some q20, none, .pick (.t q16) (.t q19) (.c (.b false))⟩, .pu), (⟨some q21, none, .mov (.t q20)⟩, .pu), (⟨some q22, some (q21, true), .fa 1 (.t q3)⟩, .pu), (⟨some q23, some (q21, true), .ld1 (.t q22)⟩, .rd 0), (⟨some q24, some (q21, true), .ldN 7 (.t q2)⟩, .rd 0), (⟨some q25, some (q21, true), .fa 0 (.t q3)⟩, .pu), (⟨some q26, some (q21, true), .ld1 (.t q25)⟩, .rd 0), (⟨some q27, some (q21, true), .call 31 [.t q24, .t q26]⟩, .ad), (⟨some q28, some (q21, true), .len (.t q27)⟩, .pu)] [⟨some q29, some (q21, true), .binI .leq (.t q23) (.t q28)⟩, ⟨some q30, none, .pick (.t q21) (.t q29) (.c (.b false))⟩, ⟨some q4, none, .mov (.t q30)⟩] []) .ret)
def F16 : IFn := ⟨31, [.tmp q4], B16⟩
theorem R16 : F16.res = [.tmp q4] := rfl
theorem fits16 : FitsF Tryd.prog 16 F16 := cmpF_fits (pol := fun _ => false) Tryd.func16 (by kernel_rfl)
def B17 : IC := .seq (.reg [⟨some q3, none, .box (.t q1)⟩]) (.seq (.reg [⟨some q5, none, .fa 0 (.t q3)⟩, ⟨some q6, none, .ld1 (.t q5)⟩, ⟨some q7, none, .binI .sub (.t q6) (.c (.i .i64 (.negSucc 0)))⟩, ⟨some q8, none, .binI .mul (.t q7) (.c (.i .i64 9))⟩, ⟨some q9, none, .fa 1 (.t q3)⟩, ⟨some q10, none, .ld1 (.t q9)⟩, ⟨some q11, none, .binI .add (.t q8) (.t q10)⟩, ⟨some q4, none, .mov (.t q11)⟩]) (.dreg 0 [(⟨some q12, none, .mov (.t q0)⟩, .pu), (⟨some q13, none, .mov (.t q4)⟩, .pu), (⟨some q14, none, .binI .quo (.t q13) (.c (.i .i64 64))⟩, .pu), (⟨some q15, none, .nck (.t q12)⟩, .pu), (⟨some q16, none, .ixA 9 1 (.t q15) (.t q14)⟩, .pu), (⟨some q17, none, .ld1 (.t q16)⟩, .rd 0), (⟨some q18, none, .mov (.t q4)⟩, .pu), (⟨some q19, none, .binI .rem (.t q18) (.c (.i .i64 64))⟩, .pu), (⟨some q20, none, .binI .shl (.c (.i .u64 1)) (.t q19)⟩, .pu), (⟨some q21, none, .binI .or (.t q17) (.t q20)⟩, .pu), (⟨some q22, none, .nck (.t q12)⟩, .pu)] [⟨some q23, none, .ixA 9 1 (.t q22) (.t q14)⟩, ⟨none, none, .st 1 (.t q23) (.t q21)⟩] []))
def F17 : IFn := ⟨24, [], B17⟩
theorem R17 : F17.res = [] := rfl
theorem fits17 : FitsF Tryd.prog 17 F17 := cmpF_fits (pol := fun _ => false) Tryd.func17 (by kernel_rfl)
def K18_0 : IC := .reg [⟨some q68, none, .binI .add (.t q51) (.c (.i .i64 1))⟩, ⟨some q51, none, .mov (.t q68)⟩]
def K18_1 : IC := .seq (.block 3 (.seq (.reg [⟨some q53, none, .mov (.t q51)⟩, ⟨some q54, none, .ixS 3 (.t q49) (.t q51)⟩, ⟨some q55, none, .ldN 3 (.t q54)⟩, ⟨some q11, none, .new [.i .i64 0, .nils, .i .i64 0]⟩, ⟨some q10, none, .mov (.t q53)⟩, ⟨none, none, .st 3 (.t q11) (.t q55)⟩]) (.seq (.reg [⟨some q56, none, .fa 0 (.t q11)⟩, ⟨some q57, none, .ld1 (.t q56)⟩, ⟨some q58, none, .mov (.t q8)⟩, ⟨some q59, none, .binI .eql (.t q57) (.t q58)⟩]) (.cond (.t q59) (.seq (.reg [⟨some q60, none, .mov (.t q10)⟩, ⟨some q61, none, .build [.i .i64 0, .i .i64 0] [(0, 1, .t q60)]⟩, ⟨some q12, none, .new [.i .i64 0, .i .i64 0]⟩, ⟨none, none, .st 2 (.t q12) (.t q61)⟩]) (.seq (.reg [⟨some q62, none, .ldN 2 (.t q12)⟩, ⟨some q63, none, .call 17 [.t q3, .t q62]⟩]) (.reg [⟨some q64, none, .mov (.t q6)⟩, ⟨some q65, none, .ldN 2 (.t q12)⟩, ⟨some q66, none, .bsl 2 1 [.i .i64 0, .i .i64 0] [(0, 2, .t q65)]⟩, ⟨some q67, none, .app 2 16 (.t q64) (.t q66)⟩, ⟨some q6, none, .mov (.t q67)⟩]))) .skip)))) K18_0
def L18_2 : IC := .seq (.reg [⟨some q52, none, .binI .lss (.t q51) (.t q50)⟩]) (.seq (.cond (.t q52) .skip (.exit 2)) K18_1)
def K18_3 : IC := .seq (.reg [⟨some q46, none, .mov (.t q8)⟩, ⟨some q47, none, .ixA 40 1 (.t q5) (.t q46)⟩, ⟨none, none, .st 1 (.t q47) (.c (.b true))⟩]) (.seq (.reg [⟨some q48, none, .fa 3 (.t q2)⟩, ⟨some q49, none, .ld1 (.t q48)⟩, ⟨some q50, none, .len (.t q49)⟩, ⟨some q51, none, .mov (.c (.i .i64 0))⟩]) (.block 2 (.loop L18_2)))
def K18_4 : IC := .block 1 (.seq (.reg [⟨some q18, none, .mov (.t q6)⟩, ⟨some q19, none, .mov (.t q6)⟩, ⟨some q20, none, .len (.t q19)⟩, ⟨some q21, none, .binI .sub (.t q20) (.c (.i .i64 1))⟩, ⟨some q22, none, .ixS 2 (.t q18) (.t q21)⟩, ⟨some q23, none, .ldN 2 (.t q22)⟩, ⟨some q7, none, .new [.i .i64 0, .i .i64 0]⟩, ⟨none, none, .st 2 (.t q7) (.t q23)⟩]) (.seq (.reg [⟨some q24, none, .mov (.t q6)⟩, ⟨some q25, none, .mov (.t q6)⟩, ⟨some q26, none, .len (.t q25)⟩, ⟨some q27, none, .binI .sub (.t q26) (.c (.i .i64 1))⟩, ⟨some q28, none, .cut 2 (.t q24) none (some (.t q27))⟩, ⟨some q6, none, .mov (.t q28)⟩]) (.seq (.reg [⟨some q30, none, .ldN 7 (.t q2)⟩, ⟨some q31, none, .ldN 2 (.t q7)⟩, ⟨some q32, none, .call 32 [.t q30, .t q31]⟩, ⟨some q29, none, .mov (.t q32)⟩, ⟨some q33, none, .ext (.t q29) 0⟩, ⟨some q34, none, .ext (.t q29) 1⟩, ⟨some q8, none, .mov (.t q33)⟩, ⟨some q9, none, .mov (.t q34)⟩]) (.seq (.seq (.reg [⟨some q35, none, .mov (.t q9)⟩, ⟨some q36, none, .un .not (.t q35)⟩, ⟨some q37, none, .mov (.t q36)⟩, ⟨some q38, some (q37, false), .mov (.t q8)⟩, ⟨some q39, some (q37, false), .binI .lss (.t q38) (.c (.i .i64 0))⟩, ⟨some q40, none, .pick (.t q37) (.c (.b true)) (.t q39)⟩, ⟨some q41, none, .mov (.t q40)⟩, ⟨some q42, some (q41, false), .mov (.t q8)⟩, ⟨some q43, some (q41, false), .ixA 40 1 (.t q5) (.t q42)⟩, ⟨some q44, some (q41, false), .ld1 (.t q43)⟩, ⟨some q45, none, .pick (.t q41) (.c (.b true)) (.t q44)⟩]) (.cond (.t q45) (.exit 1) .skip)) K18_3))))
def L18_5 : IC := .seq (.seq (.reg [⟨some q15, none, .mov (.t q6)⟩, ⟨some q16, none, .len (.t q15)⟩, ⟨some q17, none, .binI .gtr (.t q16) (.c (.i .i64 0))⟩]) (.cond (.t q17) .skip (.exit 0))) K18_4
def K18_6 : IC := .seq (.reg [⟨some q69, none, .ldN 9 (.t q3)⟩, ⟨none, none, .st 9 (.t q4) (.t q69)⟩]) .ret
def B18 : IC := .seq (.reg [⟨some q2, none, .box (.t q0)⟩, ⟨some q3, none, .box (.t q1)⟩, ⟨some q4, none, .new [.i .u64 0, .i .u64 0, .i .u64 0, .i .u64 0, .i .u64 0, .i .u64 0, .i .u64 0, .i .u64 0, .i .u64 0]⟩]) (.seq (.reg [⟨some q5, none, .new [.b false, .b false, .b false, .b false, .b false, .b false, .b false, .b false, .b false, .b false, .b false, .b false, .b false, .b false, .b false, .b false, .b false, .b false, .b false, .b false, .b false, .b false, .b false, .b false, .b false, .b false, .b false, .b false, .b false, .b false, .b false, .b false, .b false, .b false, .b false, .b false, .b false, .b false, .b false, .b false]⟩]) (.seq (.seq (.reg [⟨some q13, none, .ldN 9 (.t q3)⟩, ⟨some q14, none, .call 19 [.t q13]⟩, ⟨some q6, none, .mov (.t q14)⟩]) (.block 0 (.loop L18_5))) K18_6))
def F18 : IFn := ⟨70, [.cN q4 9], B18⟩
theorem R18 : F18.res = [.cN q4 9] := rfl
theorem fits18 : FitsF Tryd.prog 18 F18 := cmpF_fits (pol := fun _ => false) Tryd.func18 (by kernel_rfl)
def K19_0 : IC := .reg [⟨some q14, none, .mov (.t q5)⟩, ⟨some q15, none, .mov (.t q5)⟩, ⟨some q16, none, .binI .sub (.t q15) (.c (.i .u64 1))⟩, ⟨some q17, none, .binI .and (.t q14) (.t q16)⟩, ⟨some q5, none, .mov (.t q17)⟩]
def K19_1 : IC := .seq (.block 3 (.seq (.reg [⟨some q18, none, .mov (.t q4)⟩, ⟨some q19, none, .binI .mul (.t q18) (.c (.i .i64 64))⟩, ⟨some q20, none, .mov (.t q5)⟩, ⟨some q21, none, .call 33 [.t q20]⟩, ⟨some q22, none, .binI .add (.t q19) (.t q21)⟩, ⟨some q6, none, .mov (.t q22)⟩]) (.reg [⟨some q23, none, .mov (.t q3)⟩, ⟨some q24, none, .mov (.t q6)⟩, ⟨some q25, none, .binI .quo (.t q24) (.c (.i .i64 9))⟩, ⟨some q26, none, .binI .add (.t q25) (.c (.i .i64 (.negSucc 0)))⟩, ⟨some q27, none, .mov (.t q6)⟩, ⟨some q28, none, .binI .rem (.t q27) (.c (.i .i64 9))⟩, ⟨some q29, none, .build [.i .i64 0, .i .i64 0] [(0, 1, .t q26), (1, 1, .t q28)]⟩, ⟨some q30, none, .bsl 2 1 [.i .i64 0, .i .i64 0] [(0, 2, .t q29)]⟩, ⟨some q31, none, .app 2 16 (.t q23) (.t q30)⟩, ⟨some q3, none, .mov (.t q31)⟩]))) K19_0
def L19_2 : IC := .seq (.seq (.reg [⟨some q12, none, .mov (.t q5)⟩, ⟨some q13, none, .binI .neq (.t q12) (.c (.i .u64 0))⟩]) (.cond (.t q13) .skip (.exit 2))) K19_1
def K19_3 : IC := .reg [⟨some q32, none, .binI .add (.t q8) (.c (.i .i64 1))⟩, ⟨some q8, none, .mov (.t q32)⟩]
def K19_4 : IC := .seq (.block 1 (.seq (.reg [⟨some q10, none, .mov (.t q8)⟩, ⟨some q11, none, .pu2 (.ixL 9) (.t q7) (.t q8)⟩, ⟨some q4, none, .mov (.t q10)⟩, ⟨some q5, none, .mov (.t q11)⟩]) (.block 2 (.loop L19_2)))) K19_3
def L19_5 : IC := .seq (.reg [⟨some q9, none, .binI .lss (.t q8) (.c (.i .i64 9))⟩]) (.seq (.cond (.t q9) .skip (.exit 0)) K19_4)
def K19_6 : IC := .seq (.reg [⟨some q33, none, .mov (.t q3)⟩, ⟨some q2, none, .mov (.t q33)⟩]) .ret
def B19 : IC := .seq (.reg [⟨some q1, none, .box (.t q0)⟩, ⟨some q2, none, .mov (.c .nils)⟩]) (.seq (.reg [⟨some q3, none, .mov (.c .nils)⟩]) (.seq (.seq (.reg [⟨some q7, none, .ldN 9 (.t q1)⟩, ⟨some q8, none, .mov (.c (.i .i64 0))⟩]) (.block 0 (.loop L19_5))) K19_6))
def F19 : IFn := ⟨34, [.tmp q2], B19⟩
theorem R19 : F19.res = [.tmp q2] := rfl
theorem fits19 : FitsF Tryd.prog 19 F19 := cmpF_fits (pol := fun _ => false) Tryd.func19 (by kernel_rfl)
def K24_0 : IC := .reg [⟨some q41, none, .binI .add (.t q25) (.c (.i .i64 1))⟩, ⟨some q25, none, .mov (.t q41)⟩]
def K24_1 : IC := .seq (.block 1 (.seq (.reg [⟨some q27, none, .mov (.t q25)⟩, ⟨some q8, none, .mov (.t q27)⟩]) (.seq (.reg [⟨some q28, none, .mov (.t q6)⟩, ⟨some q29, none, .mov (.t q8)⟩, ⟨some q30, none, .ixS 1 (.t q28) (.t q29)⟩, ⟨some q31, none, .ld1 (.t q30)⟩, ⟨some q32, none, .un .not (.t q31)⟩, ⟨some q33, none, .mov (.t q32)⟩, ⟨some q34, some (q33, false), .mov (.t q7)⟩, ⟨some q35, some (q33, false), .mov (.t q8)⟩, ⟨some q36, some (q33, false), .ixS 1 (.t q34) (.t q35)⟩, ⟨some q37, some (q33, false), .ld1 (.t q36)⟩, ⟨some q38, some (q33, false), .un .not (.t q37)⟩, ⟨some q39, none, .pick (.t q33) (.c (.b true)) (.t q38)⟩]) (.cond (.t q39) (.seq (.reg [⟨some q40, none, .mov (.t q8)⟩, ⟨some q2, none, .mov (.t q40)⟩, ⟨some q3, none, .mov (.c (.i .i64 7))⟩]) .ret) .skip)))) K24_0
def L24_2 : IC := .seq (.reg [⟨some q26, none, .binI .lss (.t q25) (.t q24)⟩]) (.seq (.cond (.t q26) .skip (.exit 0)) K24_1)
def K24_3 : IC := .seq (.reg [⟨some q2, none, .mov (.c (.i .i64 (.negSucc 0)))⟩, ⟨some q3, none, .mov (.c (.i .i64 0))⟩]) .ret
def K24_4 : IC := .seq (.seq (.reg [⟨some q42, none, .ldN 7 (.t q1)⟩, ⟨some q43, none, .call 38 [.t q42]⟩, ⟨some q44, none, .call 37 [.t q43, .c (.b true)]⟩, ⟨some q9, none, .mov (.t q44)⟩]) (.seq (.reg [⟨some q45, none, .mov (.t q9)⟩, ⟨some q46, none, .binI .geq (.t q45) (.c (.i .i64 0))⟩]) (.cond (.t q46) (.seq (.reg [⟨some q47, none, .mov (.t q9)⟩, ⟨some q2, none, .mov (.t q47)⟩, ⟨some q3, none, .mov (.c (.i .i64 8))⟩]) .ret) .skip))) K24_3
def K24_5 : IC := .seq (.seq (.reg [⟨some q23, none, .fa 0 (.t q1)⟩, ⟨some q24, none, .ld1 (.t q23)⟩, ⟨some q25, none, .mov (.c (.i .i64 0))⟩]) (.block 0 (.loop L24_2))) K24_4
def K24_6 : IC := .seq (.dreg 0 [(⟨some q19, none, .ldN 7 (.t q1)⟩, .rd 0), (⟨some q20, none, .call 35 [.t q19]⟩, .ad), (⟨some q21, none, .ldN 7 (.t q1)⟩, .rd 1)] [⟨some q22, none, .call 36 [.t q21]⟩, ⟨some q6, none, .mov (.t q20)⟩, ⟨some q7, none, .mov (.t q22)⟩] []) K24_5
def B24 : IC := .seq (.reg [⟨some q1, none, .box (.t q0)⟩, ⟨some q2, none, .mov (.c (.i .i64 0))⟩, ⟨some q3, none, .mov (.c (.i .i64 0))⟩]) (.seq (.seq (.reg [⟨some q11, none, .ldN 7 (.t q1)⟩, ⟨some q12, none, .call 30 [.t q11]⟩, ⟨some q10, none, .mov (.t q12)⟩, ⟨some q13, none, .ext (.t q10) 0⟩, ⟨some q14, none, .ext (.t q10) 1⟩, ⟨some q4, none, .mov (.t q13)⟩, ⟨some q5, none, .mov (.t q14)⟩]) (.seq (.reg [⟨some q15, none, .mov (.t q5)⟩, ⟨some q16, none, .binI .neq (.t q15) (.c (.i .i64 0))⟩]) (.cond (.t q16) (.seq (.reg [⟨some q17, none, .mov (.t q4)⟩, ⟨some q18, none, .mov (.t q5)⟩, ⟨some q2, none, .mov (.t q17)⟩, ⟨some q3, none, .mov (.t q18)⟩]) .ret) .skip))) K24_6)
def F24 : IFn := ⟨48, [.tmp q2, .tmp q3], B24⟩
theorem R24 : F24.res = [.tmp q2, .tmp q3] := rfl
theorem fits24 : FitsF Tryd.prog 24 F24 := cmpF_fits (pol := fun _ => false) Tryd.func24 (by kernel_rfl)
def K25_0 : IC := .dreg 0 [(⟨some q39, none, .mov (.t q0)⟩, .pu), (⟨some q40, none, .mov (.t q0)⟩, .pu), (⟨some q41, none, .nck (.t q40)⟩, .pu), (⟨some q42, none, .fa 8 (.t q41)⟩, .pu), (⟨some q43, none, .ld1 (.t q42)⟩, .rd 0), (⟨some q44, none, .ldN 9 (.t q3)⟩, .rd 0), (⟨some q45, none, .call 19 [.t q44]⟩, .ad), (⟨some q46, none, .build [.nils, .nils, .nils] [(0, 1, .t q45)]⟩, .pu), (⟨some q47, none, .bsl 3 1 [.nils, .nils, .nils] [(0, 3, .t q46)]⟩, .ad), (⟨some q48, none, .app 3 72 (.t q43) (.t q47)⟩, .md)] [⟨some q49, none, .nck (.t q39)⟩, ⟨some q50, none, .fa 8 (.t q49)⟩, ⟨none, none, .st 1 (.t q50) (.t q48)⟩] []
def K25_1 : IC := .seq (.dreg 0 [(⟨some q29, none, .mov (.t q0)⟩, .pu), (⟨some q30, none, .mov (.t q0)⟩, .pu), (⟨some q31, none, .nck (.t q30)⟩, .pu), (⟨some q32, none, .fa 7 (.t q31)⟩, .pu), (⟨some q33, none, .ld1 (.t q32)⟩, .rd 0), (⟨some q34, none, .ldN 9 (.t q3)⟩, .rd 0), (⟨some q35, none, .bsl 9 1 [.i .u64 0, .i .u64 0, .i .u64 0, .i .u64 0, .i .u64 0, .i .u64 0, .i .u64 0, .i .u64 0, .i .u64 0] [(0, 9, .t q34)]⟩, .ad), (⟨some q36, none, .app 9 72 (.t q33) (.t q35)⟩, .md)] [⟨some q37, none, .nck (.t q29)⟩, ⟨some q38, none, .fa 7 (.t q37)⟩, ⟨none, none, .st 1 (.t q38) (.t q36)⟩] []) K25_0
def K25_2 : IC := .seq (.reg [⟨some q51, none, .mov (.t q5)⟩, ⟨some q4, none, .mov (.t q51)⟩]) .ret
def K25_3 : IC := .seq (.seq (.reg [⟨some q16, none, .mov (.t q6)⟩, ⟨some q17, none, .un .not (.t q16)⟩]) (.cond (.t q17) (.seq (.reg [⟨some q18, none, .mov (.t q0)⟩, ⟨some q19, none, .nck (.t q18)⟩, ⟨some q20, none, .fa 7 (.t q19)⟩, ⟨some q21, none, .ld1 (.t q20)⟩, ⟨some q22, none, .len (.t q21)⟩, ⟨some q5, none, .mov (.t q22)⟩]) (.seq (.dreg 0 [(⟨some q23, none, .mov (.t q0)⟩, .pu), (⟨some q24, none, .nck (.t q23)⟩, .pu), (⟨some q25, none, .fa 9 (.t q24)⟩, .pu), (⟨some q26, none, .ld1 (.t q25)⟩, .rd 0), (⟨some q27, none, .ldN 9 (.t q3)⟩, .rd 0), (⟨some q28, none, .mov (.t q5)⟩, .pu)] [⟨none, none, .wrm (.mupA 9) (.t q26) (.t q27) (.t q28)⟩] []) K25_1)) .skip)) K25_2
def B25 : IC := .seq (.reg [⟨some q3, none, .box (.t q1)⟩, ⟨some q4, none, .mov (.c (.i .i64 0))⟩]) (.seq (.dreg 0 [(⟨some q8, none, .mov (.t q0)⟩, .pu), (⟨some q9, none, .nck (.t q8)⟩, .pu), (⟨some q10, none, .fa 9 (.t q9)⟩, .pu), (⟨some q11, none, .ld1 (.t q10)⟩, .rd 0), (⟨some q12, none, .ldN 9 (.t q3)⟩, .rd 0), (⟨some q13, none, .rdm (.lkpA 9 true (.i .i64 0)) (.t q11) (.t q12)⟩, .rd 0), (⟨some q7, none, .mov (.t q13)⟩, .pu), (⟨some q14, none, .ext (.t q7) 0⟩, .pu), (⟨some q15, none, .ext (.t q7) 1⟩, .pu), (⟨some q5, none, .mov (.t q14)⟩, .pu)] [⟨some q6, none, .mov (.t q15)⟩] []) K25_3)
def F25 : IFn := ⟨52, [.tmp q4], B25⟩
theorem R25 : F25.res = [.tmp q4] := rfl
theorem fits25 : FitsF Tryd.prog 25 F25 := cmpF_fits (pol := fun _ => false) Tryd.func25 (by kernel_rfl)
def K26_0 : IC := .reg [⟨some q45, none, .binI .add (.t q21) (.c (.i .i64 1))⟩, ⟨some q21, none, .mov (.t q45)⟩]
def K26_1 : IC := .seq (.block 1 (.seq (.reg [⟨some q23, none, .mov (.t q21)⟩, ⟨some q24, none, .ixS 9 (.t q19) (.t q21)⟩, ⟨some q25, none, .ldN 9 (.t q24)⟩, ⟨some q7, none, .new [.i .u64 0, .i .u64 0, .i .u64 0, .i .u64 0, .i .u64 0, .i .u64 0, .i .u64 0, .i .u64 0, .i .u64 0]⟩, ⟨some q6, none, .mov (.t q23)⟩, ⟨none, none, .st 9 (.t q7) (.t q25)⟩]) (.seq (.reg [⟨some q26, none, .ldN 9 (.t q7)⟩, ⟨some q27, none, .build [.i .u64 0, .i .u64 0, .i .u64 0, .i .u64 0, .i .u64 0, .i .u64 0, .i .u64 0, .i .u64 0, .i .u64 0] []⟩, ⟨some q28, none, .pu2 (.eqA 9 true) (.t q26) (.t q27)⟩]) (.cond (.t q28) (.seq (.reg [⟨some q29, none, .mov (.t q4)⟩, ⟨some q30, none, .mov (.t q6)⟩, ⟨some q31, none, .mov (.t q0)⟩, ⟨some q32, none, .nck (.t q31)⟩, ⟨some q33, none, .fa 0 (.t q32)⟩, ⟨some q34, none, .fa 1 (.t q33)⟩, ⟨some q35, none, .ld1 (.t q34)⟩, ⟨some q36, none, .binI .sub (.t q30) (.t q35)⟩, ⟨some q37, none, .bsl 1 1 [.i .i64 0] [(0, 1, .t q36)]⟩, ⟨some q38, none, .app 1 8 (.t q29) (.t q37)⟩, ⟨some q4, none, .mov (.t q38)⟩]) (.reg [⟨some q39, none, .mov (.t q5)⟩, ⟨some q40, none, .mov (.t q0)⟩, ⟨some q41, none, .ldN 9 (.t q7)⟩, ⟨some q42, none, .call 25 [.t q40, .t q41]⟩, ⟨some q43, none, .bsl 1 1 [.i .i64 0] [(0, 1, .t q42)]⟩, ⟨some q44, none, .app 1 8 (.t q39) (.t q43)⟩, ⟨some q5, none, .mov (.t q44)⟩])) .skip)))) K26_0
def L26_2 : IC := .seq (.reg [⟨some q22, none, .binI .lss (.t q21) (.t q20)⟩]) (.seq (.cond (.t q22) .skip (.exit 0)) K26_1)
def K26_3 : IC := .dreg 0 [(⟨some q46, none, .mov (.t q0)⟩, .pu), (⟨some q47, none, .nck (.t q46)⟩, .pu), (⟨some q48, none, .fa 8 (.t q47)⟩, .pu), (⟨some q49, none, .ld1 (.t q48)⟩, .rd 0), (⟨some q50, none, .mov (.t q1)⟩, .pu), (⟨some q51, none, .mov (.t q0)⟩, .pu), (⟨some q52, none, .nck (.t q51)⟩, .pu), (⟨some q53, none, .fa 8 (.t q52)⟩, .pu), (⟨some q54, none, .ld1 (.t q53)⟩, .rd 0), (⟨some q55, none, .mov (.t q1)⟩, .pu), (⟨some q56, none, .mov (.t q4)⟩, .pu), (⟨some q57, none, .mov (.t q5)⟩, .pu), (⟨some q58, none, .ixS 3 (.t q49) (.t q50)⟩, .pu), (⟨some q59, none, .fa 1 (.t q58)⟩, .pu), (⟨none, none, .st 1 (.t q59) (.t q56)⟩, .md)] [⟨some q60, none, .ixS 3 (.t q54) (.t q55)⟩, ⟨some q61, none, .fa 2 (.t q60)⟩, ⟨none, none, .st 1 (.t q61) (.t q57)⟩] []
def B26 : IC := .seq (.reg [⟨some q4, none, .mov (.c .nils)⟩, ⟨some q5, none, .mov (.c .nils)⟩]) (.seq (.seq (.dreg 0 [(⟨some q8, none, .mov (.t q0)⟩, .pu), (⟨some q9, none, .nck (.t q8)⟩, .pu), (⟨some q10, none, .fa 0 (.t q9)⟩, .pu), (⟨some q11, none, .ldN 7 (.t q10)⟩, .rd 0), (⟨some q12, none, .mov (.t q0)⟩, .pu), (⟨some q13, none, .nck (.t q12)⟩, .pu), (⟨some q14, none, .fa 7 (.t q13)⟩, .pu), (⟨some q15, none, .ld1 (.t q14)⟩, .rd 0), (⟨some q16, none, .mov (.t q1)⟩, .pu), (⟨some q17, none, .ixS 9 (.t q15) (.t q16)⟩, .pu), (⟨some q18, none, .ldN 9 (.t q17)⟩, .rd 0), (⟨some q19, none, .call 39 [.t q11, .t q18]⟩, .md), (⟨some q20, none, .len (.t q19)⟩, .pu), (⟨some q21, none, .mov (.c (.i .i64 0))⟩, .pu)] [] []) (.block 0 (.loop L26_2))) K26_3)
def F26 : IFn := ⟨62, [], B26⟩
theorem R26 : F26.res = [] := rfl
theorem fits26 : FitsF Tryd.prog 26 F26 := cmpF_fits (pol := fun _ => false) Tryd.func26 (by kernel_rfl)
def K30_0 : IC := .reg [⟨some q30, none, .binI .add (.t q18) (.c (.i .i64 1))⟩, ⟨some q18, none, .mov (.t q30)⟩]
def K30_1 : IC := .seq (.block 1 (.seq (.reg [⟨some q20, none, .mov (.t q18)⟩, ⟨some q21, none, .ixS 3 (.t q16) (.t q18)⟩, ⟨some q22, none, .ldN 3 (.t q21)⟩, ⟨some q6, none, .new [.i .i64 0, .nils, .i .i64 0]⟩, ⟨some q5, none, .mov (.t q20)⟩, ⟨none, none, .st 3 (.t q6) (.t q22)⟩]) (.seq (.reg [⟨some q23, none, .ldN 7 (.t q1)⟩, ⟨some q24, none, .ldN 3 (.t q6)⟩, ⟨some q25, none, .call 44 [.t q23, .t q24]⟩, ⟨some q7, none, .mov (.t q25)⟩]) (.seq (.reg [⟨some q26, none, .mov (.t q7)⟩, ⟨some q27, none, .binI .neq (.t q26) (.c (.i .i64 0))⟩]) (.cond (.t q27) (.seq (.reg [⟨some q28, none, .mov (.t q5)⟩, ⟨some q29, none, .mov (.t q7)⟩, ⟨some q2, none, .mov (.t q28)⟩, ⟨some q3, none, .mov (.t q29)⟩]) .ret) .skip))))) K30_0
def L30_2 : IC := .seq (.reg [⟨some q19, none, .binI .lss (.t q18) (.t q17)⟩]) (.seq (.cond (.t q19) .skip (.exit 0)) K30_1)
def K30_3 : IC := .reg [⟨some q42, none, .binI .add (.t q34) (.c (.i .i64 1))⟩, ⟨some q34, none, .mov (.t q42)⟩]
def K30_4 : IC := .seq (.block 3 (.seq (.reg [⟨some q36, none, .ixS 3 (.t q32) (.t q34)⟩, ⟨some q37, none, .ldN 3 (.t q36)⟩, ⟨some q9, none, .new [.i .i64 0, .i .i64 0, .i .i64 0]⟩, ⟨none, none, .st 3 (.t q9) (.t q37)⟩]) (.seq (.reg [⟨some q38, none, .ldN 7 (.t q1)⟩, ⟨some q39, none, .ldN 3 (.t q9)⟩, ⟨some q40, none, .call 45 [.t q38, .t q39]⟩, ⟨some q41, none, .un .not (.t q40)⟩]) (.cond (.t q41) (.seq (.reg [⟨some q2, none, .mov (.c (.i .i64 (.negSucc 0)))⟩, ⟨some q3, none, .mov (.c (.i .i64 6))⟩]) .ret) .skip)))) K30_3
def L30_5 : IC := .seq (.reg [⟨some q35, none, .binI .lss (.t q34) (.t q33)⟩]) (.seq (.cond (.t q35) .skip (.exit 2)) K30_4)
def K30_6 : IC := .seq (.reg [⟨some q2, none, .mov (.c (.i .i64 (.negSucc 0)))⟩, ⟨some q3, none, .mov (.c (.i .i64 0))⟩]) .ret
def K30_7 : IC := .seq (.seq (.reg [⟨some q31, none, .fa 4 (.t q1)⟩, ⟨some q32, none, .ld1 (.t q31)⟩, ⟨some q33, none, .len (.t q32)⟩, ⟨some q34, none, .mov (.c (.i .i64 0))⟩]) (.block 2 (.loop L30_5))) K30_6
def K30_8 : IC := .seq (.seq (.reg [⟨some q15, none, .fa 3 (.t q1)⟩, ⟨some q16, none, .ld1 (.t q15)⟩, ⟨some q17, none, .len (.t q16)⟩, ⟨some q18, none, .mov (.c (.i .i64 0))⟩]) (.block 0 (.loop L30_2))) K30_7
def B30 : IC := .seq (.reg [⟨some q1, none, .box (.t q0)⟩, ⟨some q2, none, .mov (.c (.i .i64 0))⟩, ⟨some q3, none, .mov (.c (.i .i64 0))⟩]) (.seq (.seq (.reg [⟨some q10, none, .ldN 7 (.t q1)⟩, ⟨some q11, none, .call 43 [.t q10]⟩, ⟨some q4, none, .mov (.t q11)⟩]) (.seq (.reg [⟨some q12, none, .mov (.t q4)⟩, ⟨some q13, none, .binI .neq (.t q12) (.c (.i .i64 0))⟩]) (.cond (.t q13) (.seq (.reg [⟨some q14, none, .mov (.t q4)⟩, ⟨some q2, none, .mov (.c (.i .i64 (.negSucc 0)))⟩, ⟨some q3, none, .mov (.t q14)⟩]) .ret) .skip))) K30_8)
def F30 : IFn := ⟨43, [.tmp q2, .tmp q3], B30⟩
theorem R30 : F30.res = [.tmp q2, .tmp q3] := rfl
theorem fits30 : FitsF Tryd.prog 30 F30 := cmpF_fits (pol := fun _ => false) Tryd.func30 (by kernel_rfl)
def K31_0 : IC := .seq (.reg [⟨some q10, none, .fa 3 (.t q2)⟩, ⟨some q11, none, .ld1 (.t q10)⟩, ⟨some q12, none, .mov (.t q1)⟩, ⟨some q13, none, .ixS 3 (.t q11) (.t q12)⟩, ⟨some q14, none, .fa 1 (.t q13)⟩, ⟨some q15, none, .ld1 (.t q14)⟩, ⟨some q4, none, .mov (.t q15)⟩]) .ret
def B31 : IC := .seq (.reg [⟨some q2, none, .box (.t q0)⟩, ⟨some q4, none, .mov (.c .nils)⟩]) (.seq (.seq (.reg [⟨some q5, none, .mov (.t q1)⟩, ⟨some q6, none, .binI .eql (.t q5) (.c (.i .i64 (.negSucc 0)))⟩]) (.cond (.t q6) (.seq (.reg [⟨some q7, none, .fa 2 (.t q2)⟩, ⟨some q8, none, .ld1 (.t q7)⟩, ⟨some q9, none, .bsl 1 1 [.i .i64 0] [(0, 1, .t q8)]⟩, ⟨some q4, none, .mov (.t q9)⟩]) .ret) .skip)) K31_0)
def F31 : IFn := ⟨16, [.tmp q4], B31⟩
theorem R31 : F31.res = [.tmp q4] := rfl
theorem fits31 : FitsF Tryd.prog 31 F31 := cmpF_fits (pol := fun _ => false) Tryd.func31 (by kernel_rfl)
def K32_0 : IC := .seq (.reg [⟨some q16, none, .mov (.t q6)⟩, ⟨some q17, none, .fa 1 (.t q3)⟩, ⟨some q18, none, .ld1 (.t q17)⟩, ⟨some q19, none, .ixS 1 (.t q16) (.t q18)⟩, ⟨some q20, none, .ld1 (.t q19)⟩, ⟨some q4, none, .mov (.t q20)⟩, ⟨some q5, none, .mov (.c (.b true))⟩]) .ret
def B32 : IC := .seq (.reg [⟨some q2, none, .box (.t q0)⟩, ⟨some q3, none, .box (.t q1)⟩, ⟨some q4, none, .mov (.c (.i .i64 0))⟩, ⟨some q5, none, .mov (.c (.b false))⟩]) (.seq (.reg [⟨some q7, none, .ldN 7 (.t q2)⟩, ⟨some q8, none, .fa 0 (.t q3)⟩, ⟨some q9, none, .ld1 (.t q8)⟩, ⟨some q10, none, .call 31 [.t q7, .t q9]⟩, ⟨some q6, none, .mov (.t q10)⟩]) (.seq (.seq (.reg [⟨some q11, none, .fa 1 (.t q3)⟩, ⟨some q12, none, .ld1 (.t q11)⟩, ⟨some q13, none, .mov (.t q6)⟩, ⟨some q14, none, .len (.t q13)⟩, ⟨some q15, none, .binI .eql (.t q12) (.t q14)⟩]) (.cond (.t q15) (.seq (.reg [⟨some q4, none, .mov (.c (.i .i64 0))⟩, ⟨some q5, none, .mov (.c (.b false))⟩]) .ret) .skip)) K32_0))
def F32 : IFn := ⟨21, [.tmp q4, .tmp q5], B32⟩
theorem R32 : F32.res = [.tmp q4, .tmp q5] := rfl
theorem fits32 : FitsF Tryd.prog 32 F32 := cmpF_fits (pol := fun _ => false) Tryd.func32 (by kernel_rfl)
def K33_0 : IC := .seq (.reg [⟨some q5, none, .mov (.t q0)⟩, ⟨some q6, none, .mov (.t q0)⟩, ⟨some q7, none, .un .neg (.t q6)⟩, ⟨some q8, none, .binI .and (.t q5) (.t q7)⟩, ⟨some q9, none, .binI .mul (.t q8) (.c (.i .u64 285870213051353865))⟩, ⟨some q10, none, .binI .shr (.t q9) (.c (.i .u64 58))⟩, ⟨some q11, none, .ixA 64 1 (.c (.p 0 0)) (.t q10)⟩, ⟨some q12, none, .ld1 (.t q11)⟩, ⟨some q13, none, .cvI .i64 (.t q12)⟩, ⟨some q2, none, .mov (.t q13)⟩]) .ret
def B33 : IC := .seq (.reg [⟨some q2, none, .mov (.c (.i .i64 0))⟩]) (.seq (.seq (.reg [⟨some q3, none, .mov (.t q0)⟩, ⟨some q4, none, .binI .eql (.t q3) (.c (.i .u64 0))⟩]) (.cond (.t q4) (.seq (.reg [⟨some q2, none, .mov (.c (.i .i64 64))⟩]) .ret) .skip)) K33_0)
def F33 : IFn := ⟨14, [.tmp q2], B33⟩
theorem R33 : F33.res = [.tmp q2] := rfl
theorem fits33 : FitsF Tryd.prog 33 F33 := cmpF_fits (pol := fun _ => false) Tryd.func33 (by kernel_rfl)
def K35_0 : IC := .reg [⟨some q39, none, .binI .add (.t q21) (.c (.i .i64 1))⟩, ⟨some q21, none, .mov (.t q39)⟩]
def K35_1 : IC := .seq (.block 3 (.seq (.reg [⟨some q23, none, .ixS 3 (.t q19) (.t q21)⟩, ⟨some q24, none, .ldN 3 (.t q23)⟩, ⟨some q6, none, .new [.i .i64 0, .nils, .i .i64 0]⟩, ⟨none, none, .st 3 (.t q6) (.t q24)⟩]) (.reg [⟨some q25, none, .mov (.t q3)⟩, ⟨some q26, none, .fa 0 (.t q6)⟩, ⟨some q27, none, .ld1 (.t q26)⟩, ⟨some q28, none, .ixS 1 (.t q25) (.t q27)⟩, ⟨some q29, none, .ld1 (.t q28)⟩, ⟨some q30, none, .mov (.t q29)⟩, ⟨some q31, some (q30, true), .mov (.t q3)⟩, ⟨some q32, some (q30, true), .fa 1 (.t q6)⟩, ⟨some q33, some (q30, true), .ld1 (.t q32)⟩, ⟨some q34, some (q30, true), .call 48 [.t q31, .t q33]⟩, ⟨some q35, none, .pick (.t q30) (.t q34) (.c (.b false))⟩, ⟨some q36, none, .mov (.t q35)⟩, ⟨some q37, some (q36, false), .mov (.t q4)⟩, ⟨some q38, none, .pick (.t q36) (.c (.b true)) (.t q37)⟩, ⟨some q4, none, .mov (.t q38)⟩]))) K35_0
def L35_2 : IC := .seq (.reg [⟨some q22, none, .binI .lss (.t q21) (.t q20)⟩]) (.seq (.cond (.t q22) .skip (.exit 2)) K35_1)
def K35_3 : IC := .block 1 (.seq (.reg [⟨some q4, none, .mov (.c (.b false))⟩]) (.seq (.reg [⟨some q18, none, .fa 3 (.t q1)⟩, ⟨some q19, none, .ld1 (.t q18)⟩, ⟨some q20, none, .len (.t q19)⟩, ⟨some q21, none, .mov (.c (.i .i64 0))⟩]) (.block 2 (.loop L35_2))))
def L35_4 : IC := .seq (.seq (.reg [⟨some q17, none, .mov (.t q4)⟩]) (.cond (.t q17) .skip (.exit 0))) K35_3
def K35_5 : IC := .seq (.reg [⟨some q40, none, .mov (.t q3)⟩, ⟨some q2, none, .mov (.t q40)⟩]) .ret
def K35_6 : IC := .seq (.reg [⟨some q10, none, .fa 0 (.t q1)⟩, ⟨some q11, none, .ld1 (.t q10)⟩, ⟨some q12, none, .mks 1 1 [.b false] (.t q11) (.t q11)⟩, ⟨some q3, none, .mov (.t q12)⟩]) (.seq (.reg [⟨some q13, none, .mov (.t q3)⟩, ⟨some q14, none, .fa 2 (.t q1)⟩, ⟨some q15, none, .ld1 (.t q14)⟩, ⟨some q16, none, .ixS 1 (.t q13) (.t q15)⟩, ⟨none, none, .st 1 (.t q16) (.c (.b true))⟩]) (.seq (.seq (.reg [⟨some q4, none, .mov (.c (.b true))⟩]) (.block 0 (.loop L35_4))) K35_5))
def B35 : IC := .seq (.reg [⟨some q1, none, .box (.t q0)⟩, ⟨some q2, none, .mov (.c .nils)⟩]) (.seq (.seq (.reg [⟨some q7, none, .ldN 7 (.t q1)⟩, ⟨some q8, none, .call 15 [.t q7]⟩, ⟨some q9, none, .un .not (.t q8)⟩]) (.cond (.t q9) (.seq (.reg [⟨some q2, none, .mov (.c .nils)⟩]) .ret) .skip)) K35_6)
def F35 : IFn := ⟨41, [.tmp q2], B35⟩
theorem R35 : F35.res = [.tmp q2] := rfl
theorem fits35 : FitsF Tryd.prog 35 F35 := cmpF_fits (pol := fun _ => false) Tryd.func35 (by kernel_rfl)
def K36_0 : IC := .reg [⟨some q25, none, .binI .add (.t q15) (.c (.i .i64 1))⟩, ⟨some q15, none, .mov (.t q25)⟩]
def K36_1 : IC := .seq (.block 1 (.seq (.reg [⟨some q17, none, .mov (.t q15)⟩, ⟨some q18, none, .ixS 1 (.t q13) (.t q15)⟩, ⟨some q19, none, .ld1 (.t q18)⟩, ⟨some q4, none, .mov (.t q17)⟩, ⟨some q5, none, .mov (.t q19)⟩]) (.reg [⟨some q20, none, .mov (.t q3)⟩, ⟨some q21, none, .mov (.t q4)⟩, ⟨some q22, none, .mov (.t q5)⟩, ⟨some q23, none, .binI .neq (.t q22) (.c (.i .i64 (.negSucc 0)))⟩, ⟨some q24, none, .ixS 1 (.t q20) (.t q21)⟩, ⟨none, none, .st 1 (.t q24) (.t q23)⟩]))) K36_0
def L36_2 : IC := .seq (.reg [⟨some q16, none, .binI .lss (.t q15) (.t q14)⟩]) (.seq (.cond (.t q16) .skip (.exit 0)) K36_1)
def K36_3 : IC := .seq (.reg [⟨some q26, none, .mov (.t q3)⟩, ⟨some q2, none, .mov (.t q26)⟩]) .ret
def K36_4 : IC := .seq (.reg [⟨some q9, none, .fa 0 (.t q1)⟩, ⟨some q10, none, .ld1 (.t q9)⟩, ⟨some q11, none, .mks 1 1 [.b false] (.t q10) (.t q10)⟩, ⟨some q3, none, .mov (.t q11)⟩]) (.seq (.seq (.reg [⟨some q12, none, .ldN 7 (.t q1)⟩, ⟨some q13, none, .call 49 [.t q12]⟩, ⟨some q14, none, .len (.t q13)⟩, ⟨some q15, none, .mov (.c (.i .i64 0))⟩]) (.block 0 (.loop L36_2))) K36_3)
def B36 : IC := .seq (.reg [⟨some q1, none, .box (.t q0)⟩, ⟨some q2, none, .mov (.c .nils)⟩]) (.seq (.seq (.reg [⟨some q6, none, .ldN 7 (.t q1)⟩, ⟨some q7, none, .call 15 [.t q6]⟩, ⟨some q8, none, .un .not (.t q7)⟩]) (.cond (.t q8) (.seq (.reg [⟨some q2, none, .mov (.c .nils)⟩]) .ret) .skip)) K36_4)
def F36 : IFn := ⟨27, [.tmp q2], B36⟩
theorem R36 : F36.res = [.tmp q2] := rfl
theorem fits36 : FitsF Tryd.prog 36 F36 := cmpF_fits (pol := fun _ => false) Tryd.func36 (by kernel_rfl)
def K37_0 : IC := .reg [⟨some q18, none, .binI .add (.t q8) (.c (.i .i64 1))⟩, ⟨some q8, none, .mov (.t q18)⟩]
def K37_1 : IC := .seq (.block 1 (.seq (.reg [⟨some q10, none, .mov (.t q8)⟩, ⟨some q5, none, .mov (.t q10)⟩]) (.seq (.reg [⟨some q11, none, .mov (.t q1)⟩, ⟨some q12, none, .mov (.t q0)⟩, ⟨some q13, none, .mov (.t q5)⟩, ⟨some q14, none, .ixS 1 (.t q12) (.t q13)⟩, ⟨some q15, none, .ld1 (.t q14)⟩, ⟨some q16, none, .binB .eql (.t q11) (.t q15)⟩]) (.cond (.t q16) (.seq (.reg [⟨some q17, none, .mov (.t q5)⟩, ⟨some q4, none, .mov (.t q17)⟩]) .ret) .skip)))) K37_0
def L37_2 : IC := .seq (.reg [⟨some q9, none, .binI .lss (.t q8) (.t q7)⟩]) (.seq (.cond (.t q9) .skip (.exit 0)) K37_1)
def K37_3 : IC := .seq (.reg [⟨some q4, none, .mov (.c (.i .i64 (.negSucc 0)))⟩]) .ret
def B37 : IC := .seq (.reg [⟨some q4, none, .mov (.c (.i .i64 0))⟩]) (.seq (.seq (.reg [⟨some q6, none, .mov (.t q0)⟩, ⟨some q7, none, .len (.t q6)⟩, ⟨some q8, none, .mov (.c (.i .i64 0))⟩]) (.block 0 (.loop L37_2))) K37_3)
def F37 : IFn := ⟨19, [.tmp q4], B37⟩
theorem R37 : F37.res = [.tmp q4] := rfl
theorem fits37 : FitsF Tryd.prog 37 F37 := cmpF_fits (pol := fun _ => false) Tryd.func37 (by kernel_rfl)
def K38_0 : IC := .reg [⟨some q30, none, .binI .add (.t q18) (.c (.i .i64 1))⟩, ⟨some q18, none, .mov (.t q30)⟩]
def K38_1 : IC := .seq (.block 1 (.seq (.reg [⟨some q20, none, .mov (.t q18)⟩, ⟨some q5, none, .mov (.t q20)⟩]) (.reg [⟨some q21, none, .mov (.t q4)⟩, ⟨some q22, none, .mov (.t q5)⟩, ⟨some q23, none, .mov (.t q3)⟩, ⟨some q24, none, .mov (.t q5)⟩, ⟨some q25, none, .ixS 1 (.t q23) (.t q24)⟩, ⟨some q26, none, .ld1 (.t q25)⟩, ⟨some q27, none, .mov (.t q5)⟩, ⟨some q28, none, .call 52 [.t q26, .t q27]⟩, ⟨some q29, none, .ixS 1 (.t q21) (.t q22)⟩, ⟨none, none, .st 1 (.t q29) (.t q28)⟩]))) K38_0
def L38_2 : IC := .seq (.reg [⟨some q19, none, .binI .lss (.t q18) (.t q17)⟩]) (.seq (.cond (.t q19) .skip (.exit 0)) K38_1)
def K38_3 : IC := .seq (.reg [⟨some q31, none, .mov (.t q4)⟩, ⟨some q2, none, .mov (.t q31)⟩]) .ret
def K38_4 : IC := .seq (.reg [⟨some q9, none, .ldN 7 (.t q1)⟩, ⟨some q10, none, .call 50 [.t q9]⟩, ⟨some q3, none, .mov (.t q10)⟩]) (.seq (.reg [⟨some q11, none, .mov (.t q3)⟩, ⟨some q12, none, .call 51 [.t q11]⟩]) (.seq (.reg [⟨some q13, none, .fa 0 (.t q1)⟩, ⟨some q14, none, .ld1 (.t q13)⟩, ⟨some q15, none, .mks 1 1 [.b false] (.t q14) (.t q14)⟩, ⟨some q4, none, .mov (.t q15)⟩]) (.seq (.seq (.reg [⟨some q16, none, .mov (.t q4)⟩, ⟨some q17, none, .len (.t q16)⟩, ⟨some q18, none, .mov (.c (.i .i64 0))⟩]) (.block 0 (.loop L38_2))) K38_3)))
def B38 : IC := .seq (.reg [⟨some q1, none, .box (.t q0)⟩, ⟨some q2, none, .mov (.c .nils)⟩]) (.seq (.seq (.reg [⟨some q6, none, .ldN 7 (.t q1)⟩, ⟨some q7, none, .call 15 [.t q6]⟩, ⟨some q8, none, .un .not (.t q7)⟩]) (.cond (.t q8) (.seq (.reg [⟨some q2, none, .mov (.c .nils)⟩]) .ret) .skip)) K38_4)
def F38 : IFn := ⟨32, [.tmp q2], B38⟩
theorem R38 : F38.res = [.tmp q2] := rfl
theorem fits38 : FitsF Tryd.prog 38 F38 := cmpF_fits (pol := fun _ => false) Tryd.func38 (by kernel_rfl)
def K39_0 : IC := .reg [⟨some q44, none, .binI .add (.t q21) (.c (.i .i64 1))⟩, ⟨some q21, none, .mov (.t q44)⟩]
def K39_1 : IC := .seq (.block 1 (.seq (.reg [⟨some q23, none, .ixS 2 (.t q19) (.t q21)⟩, ⟨some q24, none, .ldN 2 (.t q23)⟩, ⟨some q7, none, .new [.i .i64 0, .i .i64 0]⟩, ⟨none, none, .st 2 (.t q7) (.t q24)⟩]) (.seq (.reg [⟨some q26, none, .ldN 7 (.t q2)⟩, ⟨some q27, none, .ldN 2 (.t q7)⟩, ⟨some q28, none, .call 32 [.t q26, .t q27]⟩, ⟨some q25, none, .mov (.t q28)⟩, ⟨some q29, none, .ext (.t q25) 0⟩, ⟨some q30, none, .ext (.t q25) 1⟩, ⟨some q8, none, .mov (.t q29)⟩, ⟨some q9, none, .mov (.t q30)⟩]) (.seq (.reg [⟨some q31, none, .mov (.t q9)⟩]) (.cond (.t q31) (.seq (.reg [⟨some q32, none, .fa 1 (.t q7)⟩, ⟨some q33, none, .ld1 (.t q32)⟩, ⟨some q34, none, .binI .add (.t q33) (.c (.i .i64 1))⟩, ⟨some q35, none, .fa 1 (.t q7)⟩, ⟨none, none, .st 1 (.t q35) (.t q34)⟩]) (.dreg 0 [(⟨some q36, none, .mov (.t q5)⟩, .pu), (⟨some q37, none, .fa 1 (.t q2)⟩, .pu), (⟨some q38, none, .ld1 (.t q37)⟩, .rd 0), (⟨some q39, none, .mov (.t q8)⟩, .pu), (⟨some q40, none, .binI .add (.t q38) (.t q39)⟩, .pu), (⟨some q41, none, .ixS 9 (.t q36) (.t q40)⟩, .pu), (⟨some q42, none, .ldN 2 (.t q7)⟩, .rd 0)] [⟨some q43, none, .call 17 [.t q41, .t q42]⟩] [])) .skip))))) K39_0
def L39_2 : IC := .seq (.reg [⟨some q22, none, .binI .lss (.t q21) (.t q20)⟩]) (.seq (.cond (.t q22) .skip (.exit 0)) K39_1)
def K39_3 : IC := .seq (.reg [⟨some q45, none, .mov (.t q5)⟩, ⟨some q4, none, .mov (.t q45)⟩]) .ret
def B39 : IC := .seq (.reg [⟨some q2, none, .box (.t q0)⟩, ⟨some q3, none, .box (.t q1)⟩, ⟨some q4, none, .mov (.c .nils)⟩]) (.seq (.reg [⟨some q10, none, .fa 1 (.t q2)⟩, ⟨some q11, none, .ld1 (.t q10)⟩, ⟨some q12, none, .fa 0 (.t q2)⟩, ⟨some q13, none, .ld1 (.t q12)⟩, ⟨some q14, none, .binI .add (.t q11) (.t q13)⟩, ⟨some q15, none, .mks 9 72 [.i .u64 0, .i .u64 0, .i .u64 0, .i .u64 0, .i .u64 0, .i .u64 0, .i .u64 0, .i .u64 0, .i .u64 0] (.t q14) (.t q14)⟩, ⟨some q5, none, .mov (.t q15)⟩]) (.seq (.seq (.reg [⟨some q16, none, .ldN 7 (.t q2)⟩, ⟨some q17, none, .ldN 9 (.t q3)⟩, ⟨some q18, none, .call 18 [.t q16, .t q17]⟩, ⟨some q19, none, .call 19 [.t q18]⟩, ⟨some q20, none, .len (.t q19)⟩, ⟨some q21, none, .mov (.c (.i .i64 0))⟩]) (.block 0 (.loop L39_2))) K39_3))
def F39 : IFn := ⟨46, [.tmp q4], B39⟩
theorem R39 : F39.res = [.tmp q4] := rfl
theorem fits39 : FitsF Tryd.prog 39 F39 := cmpF_fits (pol := fun _ => false) Tryd.func39 (by kernel_rfl)
def K43_0 : IC := .cond (.t q35) (.seq (.reg [⟨some q2, none, .mov (.c (.i .i64 1))⟩]) .ret) .skip
def K43_1 : IC := .cond (.t q3) (.seq (.reg [⟨some q2, none, .mov (.c (.i .i64 3))⟩]) .ret) (.seq (.reg [⟨some q29, none, .fa 2 (.t q1)⟩, ⟨some q30, none, .ld1 (.t q29)⟩, ⟨some q31, none, .fa 0 (.t q1)⟩, ⟨some q32, none, .ld1 (.t q31)⟩, ⟨some q33, none, .call 55 [.t q30, .t q32]⟩, ⟨some q34, none, .un .not (.t q33)⟩, ⟨some q28, none, .mov (.t q34)⟩]) (.cond (.t q28) (.seq (.reg [⟨some q2, none, .mov (.c (.i .i64 6))⟩]) .ret) (.seq (.seq (.reg [⟨some q36, none, .fa 5 (.t q1)⟩, ⟨some q37, none, .ld1 (.t q36)⟩, ⟨some q38, none, .fa 3 (.t q1)⟩, ⟨some q39, none, .ld1 (.t q38)⟩, ⟨some q40, none, .len (.t q39)⟩, ⟨some q41, none, .call 56 [.t q37, .t q40]⟩, ⟨some q42, none, .un .not (.t q41)⟩, ⟨some q35, none, .mov (.t q42)⟩]) (.cond (.t q35) .skip (.reg [⟨some q43, none, .fa 6 (.t q1)⟩, ⟨some q44, none, .ld1 (.t q43)⟩, ⟨some q45, none, .fa 1 (.t q1)⟩, ⟨some q46, none, .ld1 (.t q45)⟩, ⟨some q47, none, .call 56 [.t q44, .t q46]⟩, ⟨some q48, none, .un .not (.t q47)⟩, ⟨some q35, none, .mov (.t q48)⟩]))) K43_0)))
def K43_2 : IC := .seq (.reg [⟨some q2, none, .mov (.c (.i .i64 0))⟩]) .ret
def B43 : IC := .seq (.reg [⟨some q1, none, .box (.t q0)⟩, ⟨some q2, none, .mov (.c (.i .i64 0))⟩]) (.seq (.block 0 (.seq (.seq (.reg [⟨some q4, none, .fa 0 (.t q1)⟩, ⟨some q5, none, .ld1 (.t q4)⟩, ⟨some q6, none, .binI .lss (.t q5) (.c (.i .i64 1))⟩, ⟨some q7, none, .mov (.t q6)⟩, ⟨some q8, some (q7, false), .fa 0 (.t q1)⟩, ⟨some q9, some (q7, false), .ld1 (.t q8)⟩, ⟨some q10, some (q7, false), .binI .gtr (.t q9) (.c (.i .i64 40))⟩, ⟨some q11, none, .pick (.t q7) (.c (.b true)) (.t q10)⟩, ⟨some q3, none, .mov (.t q11)⟩]) (.cond (.t q3) .skip (.seq (.reg [⟨some q12, none, .fa 1 (.t q1)⟩, ⟨some q13, none, .ld1 (.t q12)⟩, ⟨some q14, none, .binI .lss (.t q13) (.c (.i .i64 0))⟩, ⟨some q15, none, .mov (.t q14)⟩, ⟨some q16, some (q15, false), .fa 1 (.t q1)⟩, ⟨some q17, some (q15, false), .ld1 (.t q16)⟩, ⟨some q18, some (q15, false), .binI .gtr (.t q17) (.c (.i .i64 40))⟩, ⟨some q19, none, .pick (.t q15) (.c (.b true)) (.t q18)⟩, ⟨some q3, none, .mov (.t q19)⟩]) (.cond (.t q3) .skip (.seq (.reg [⟨some q20, none, .fa 3 (.t q1)⟩, ⟨some q21, none, .ld1 (.t q20)⟩, ⟨some q22, none, .len (.t q21)⟩, ⟨some q23, none, .binI .gtr (.t q22) (.c (.i .i64 60))⟩, ⟨some q3, none, .mov (.t q23)⟩]) (.cond (.t q3) .skip (.reg [⟨some q24, none, .fa 4 (.t q1)⟩, ⟨some q25, none, .ld1 (.t q24)⟩, ⟨some q26, none, .len (.t q25)⟩, ⟨some q27, none, .binI .gtr (.t q26) (.c (.i .i64 200))⟩, ⟨some q3, none, .mov (.t q27)⟩]))))))) K43_1)) K43_2)
def F43 : IFn := ⟨49, [.tmp q2], B43⟩
theorem R43 : F43.res = [.tmp q2] := rfl
theorem fits43 : FitsF Tryd.prog 43 F43 := cmpF_fits (pol := fun _ => false) Tryd.func43 (by kernel_rfl)
def K44_0 : IC := .cond (.t q7) (.seq (.reg [⟨some q4, none, .mov (.c (.i .i64 6))⟩]) .ret) (.seq (.reg [⟨some q19, none, .fa 1 (.t q3)⟩, ⟨some q20, none, .ld1 (.t q19)⟩, ⟨some q21, none, .len (.t q20)⟩, ⟨some q22, none, .binI .gtr (.t q21) (.c (.i .i64 8))⟩, ⟨some q18, none, .mov (.t q22)⟩]) (.cond (.t q18) (.seq (.reg [⟨some q4, none, .mov (.c (.i .i64 3))⟩]) .ret) (.seq (.reg [⟨some q24, none, .fa 2 (.t q3)⟩, ⟨some q25, none, .ld1 (.t q24)⟩, ⟨some q26, none, .binI .lss (.t q25) (.c (.i .i64 (.negSucc 999)))⟩, ⟨some q27, none, .mov (.t q26)⟩, ⟨some q28, some (q27, false), .fa 2 (.t q3)⟩, ⟨some q29, some (q27, false), .ld1 (.t q28)⟩, ⟨some q30, some (q27, false), .binI .gtr (.t q29) (.c (.i .i64 1000))⟩, ⟨some q31, none, .pick (.t q27) (.c (.b true)) (.t q30)⟩, ⟨some q23, none, .mov (.t q31)⟩]) (.cond (.t q23) (.seq (.reg [⟨some q4, none, .mov (.c (.i .i64 1))⟩]) .ret) .skip))))
def K44_1 : IC := .seq (.reg [⟨some q4, none, .mov (.c (.i .i64 0))⟩]) .ret
def B44 : IC := .seq (.reg [⟨some q2, none, .box (.t q0)⟩, ⟨some q3, none, .box (.t q1)⟩, ⟨some q4, none, .mov (.c (.i .i64 0))⟩]) (.seq (.reg [⟨some q6, none, .mkf (.func 57) [] [.t q2]⟩, ⟨some q5, none, .mov (.t q6)⟩]) (.seq (.block 0 (.seq (.seq (.reg [⟨some q8, none, .fa 0 (.t q3)⟩, ⟨some q9, none, .ld1 (.t q8)⟩, ⟨some q10, none, .fa 0 (.t q2)⟩, ⟨some q11, none, .ld1 (.t q10)⟩, ⟨some q12, none, .call 55 [.t q9, .t q11]⟩, ⟨some q13, none, .un .not (.t q12)⟩, ⟨some q7, none, .mov (.t q13)⟩]) (.cond (.t q7) .skip (.reg [⟨some q14, none, .fa 1 (.t q3)⟩, ⟨some q15, none, .ld1 (.t q14)⟩, ⟨some q16, none, .mov (.t q5)⟩, ⟨some q17, none, .call 59 [.t q15, .t q16]⟩, ⟨some q7, none, .mov (.t q17)⟩]))) K44_0)) K44_1))
def F44 : IFn := ⟨32, [.tmp q4], B44⟩
theorem R44 : F44.res = [.tmp q4] := rfl
theorem fits44 : FitsF Tryd.prog 44 F44 := cmpF_fits (pol := fun _ => false) Tryd.func44 (by kernel_rfl)
def K45_0 : IC := .seq (.reg [⟨some q22, none, .fa 3 (.t q2)⟩, ⟨some q23, none, .ld1 (.t q22)⟩, ⟨some q24, none, .ixA 3 1 (.t q3) (.c (.i .i64 0))⟩, ⟨some q25, none, .ld1 (.t q24)⟩, ⟨some q26, none, .ixS 3 (.t q23) (.t q25)⟩, ⟨some q27, none, .fa 1 (.t q26)⟩, ⟨some q28, none, .ld1 (.t q27)⟩, ⟨some q5, none, .mov (.t q28)⟩]) (.seq (.dreg 0 [(⟨some q29, none, .ixA 3 1 (.t q3) (.c (.i .i64 1))⟩, .pu), (⟨some q30, none, .ld1 (.t q29)⟩, .rd 0), (⟨some q31, none, .mov (.t q5)⟩, .pu), (⟨some q32, none, .len (.t q31)⟩, .pu), (⟨some q33, none, .call 55 [.t q30, .t q32]⟩, .md), (⟨some q34, none, .mov (.t q33)⟩, .pu), (⟨some q35, some (q34, true), .mov (.t q5)⟩, .pu), (⟨some q36, some (q34, true), .ixA 3 1 (.t q3) (.c (.i .i64 1))⟩, .pu), (⟨some q37, some (q34, true), .ld1 (.t q36)⟩, .rd 0), (⟨some q38, some (q34, true), .ixS 1 (.t q35) (.t q37)⟩, .pu), (⟨some q39, some (q34, true), .ld1 (.t q38)⟩, .rd 0), (⟨some q40, some (q34, true), .fa 3 (.t q2)⟩, .pu), (⟨some q41, some (q34, true), .ld1 (.t q40)⟩, .rd 0), (⟨some q42, some (q34, true), .ixA 3 1 (.t q3) (.c (.i .i64 2))⟩, .pu), (⟨some q43, some (q34, true), .ld1 (.t q42)⟩, .rd 0), (⟨some q44, some (q34, true), .ixS 3 (.t q41) (.t q43)⟩, .pu), (⟨some q45, some (q34, true), .fa 0 (.t q44)⟩, .pu), (⟨some q46, some (q34, true), .ld1 (.t q45)⟩, .rd 0)] [⟨some q47, some (q34, true), .binI .eql (.t q39) (.t q46)⟩, ⟨some q48, none, .pick (.t q34) (.t q47) (.c (.b false))⟩, ⟨some q4, none, .mov (.t q48)⟩] []) .ret)
def B45 : IC := .seq (.reg [⟨some q2, none, .box (.t q0)⟩, ⟨some q3, none, .box (.t q1)⟩, ⟨some q4, none, .mov (.c (.b false))⟩]) (.seq (.seq (.reg [⟨some q6, none, .ixA 3 1 (.t q3) (.c (.i .i64 0))⟩, ⟨some q7, none, .ld1 (.t q6)⟩, ⟨some q8, none, .fa 3 (.t q2)⟩, ⟨some q9, none, .ld1 (.t q8)⟩, ⟨some q10, none, .len (.t q9)⟩, ⟨some q11, none, .call 55 [.t q7, .t q10]⟩, ⟨some q12, none, .un .not (.t q11)⟩, ⟨some q13, none, .mov (.t q12)⟩, ⟨some q14, some (q13, false), .ixA 3 1 (.t q3) (.c (.i .i64 2))⟩, ⟨some q15, some (q13, false), .ld1 (.t q14)⟩, ⟨some q16, some (q13, false), .fa 3 (.t q2)⟩, ⟨some q17, some (q13, false), .ld1 (.t q16)⟩, ⟨some q18, some (q13, false), .len (.t q17)⟩, ⟨some q19, some (q13, false), .call 55 [.t q15, .t q18]⟩, ⟨some q20, some (q13, false), .un .not (.t q19)⟩, ⟨some q21, none, .pick (.t q13) (.c (.b true)) (.t q20)⟩]) (.cond (.t q21) (.seq (.reg [⟨some q4, none, .mov (.c (.b false))⟩]) .ret) .skip)) K45_0)
def F45 : IFn := ⟨49, [.tmp q4], B45⟩
theorem R45 : F45.res = [.tmp q4] := rfl
theorem fits45 : FitsF Tryd.prog 45 F45 := cmpF_fits (pol := fun _ => false) Tryd.func45 (by kernel_rfl)
def K48_0 : IC := .reg [⟨some q26, none, .binI .add (.t q10) (.c (.i .i64 1))⟩, ⟨some q10, none, .mov (.t q26)⟩]
def K48_1 : IC := .seq (.block 1 (.seq (.reg [⟨some q12, none, .ixS 1 (.t q8) (.t q10)⟩, ⟨some q13, none, .ld1 (.t q12)⟩, ⟨some q7, none, .mov (.t q13)⟩]) (.seq (.reg [⟨some q14, none, .mov (.t q7)⟩, ⟨some q15, none, .binI .geq (.t q14) (.c (.i .i64 0))⟩, ⟨some q16, none, .mov (.t q15)⟩, ⟨some q17, some (q16, true), .mov (.t q0)⟩, ⟨some q18, some (q16, true), .mov (.t q7)⟩, ⟨some q19, some (q16, true), .ixS 1 (.t q17) (.t q18)⟩, ⟨some q20, some (q16, true), .ld1 (.t q19)⟩, ⟨some q21, some (q16, true), .un .not (.t q20)⟩, ⟨some q22, none, .pick (.t q16) (.t q21) (.c (.b false))⟩]) (.cond (.t q22) (.reg [⟨some q23, none, .mov (.t q0)⟩, ⟨some q24, none, .mov (.t q7)⟩, ⟨some q25, none, .ixS 1 (.t q23) (.t q24)⟩, ⟨none, none, .st 1 (.t q25) (.c (.b true))⟩, ⟨some q5, none, .mov (.c (.b true))⟩]) .skip)))) K48_0
def L48_2 : IC := .seq (.reg [⟨some q11, none, .binI .lss (.t q10) (.t q9)⟩]) (.seq (.cond (.t q11) .skip (.exit 0)) K48_1)
def K48_3 : IC := .seq (.reg [⟨some q27, none, .mov (.t q5)⟩, ⟨some q4, none, .mov (.t q27)⟩]) .ret
def B48 : IC := .seq (.reg [⟨some q4, none, .mov (.c (.b false))⟩]) (.seq (.reg [⟨some q5, none, .mov (.c (.b false))⟩]) (.seq (.seq (.reg [⟨some q8, none, .mov (.t q1)⟩, ⟨some q9, none, .len (.t q8)⟩, ⟨some q10, none, .mov (.c (.i .i64 0))⟩]) (.block 0 (.loop L48_2))) K48_3))
def F48 : IFn := ⟨28, [.tmp q4], B48⟩
theorem R48 : F48.res = [.tmp q4] := rfl
theorem fits48 : FitsF Tryd.prog 48 F48 := cmpF_fits (pol := fun _ => false) Tryd.func48 (by kernel_rfl)
def K49_0 : IC := .reg [⟨some q48, none, .binI .add (.t q16) (.c (.i .i64 1))⟩, ⟨some q16, none, .mov (.t q48)⟩]
def K49_1 : IC := .seq (.block 3 (.seq (.reg [⟨some q18, none, .ixS 3 (.t q14) (.t q16)⟩, ⟨some q19, none, .ldN 3 (.t q18)⟩, ⟨some q6, none, .new [.i .i64 0, .nils, .i .i64 0]⟩, ⟨none, none, .st 3 (.t q6) (.t q19)⟩]) (.seq (.reg [⟨some q20, none, .mov (.t q3)⟩, ⟨some q21, none, .fa 1 (.t q6)⟩, ⟨some q22, none, .ld1 (.t q21)⟩, ⟨some q23, none, .call 61 [.t q20, .t q22]⟩, ⟨some q7, none, .mov (.t q23)⟩]) (.seq (.reg [⟨some q24, none, .mov (.t q7)⟩, ⟨some q25, none, .binI .neq (.t q24) (.c (.i .i64 (.negSucc 0)))⟩, ⟨some q26, none, .mov (.t q25)⟩, ⟨some q27, some (q26, true), .mov (.t q3)⟩, ⟨some q28, some (q26, true), .fa 0 (.t q6)⟩, ⟨some q29, some (q26, true), .ld1 (.t q28)⟩, ⟨some q30, some (q26, true), .ixS 1 (.t q27) (.t q29)⟩, ⟨some q31, some (q26, true), .ld1 (.t q30)⟩, ⟨some q32, some (q26, true), .binI .eql (.t q31) (.c (.i .i64 (.negSucc 0)))⟩, ⟨some q33, some (q26, true), .mov (.t q32)⟩, ⟨some q34, some (q33, false), .mov (.t q7)⟩, ⟨some q35, some (q33, false), .mov (.t q3)⟩, ⟨some q36, some (q33, false), .fa 0 (.t q6)⟩, ⟨some q37, some (q33, false), .ld1 (.t q36)⟩, ⟨some q38, some (q33, false), .ixS 1 (.t q35) (.t q37)⟩, ⟨some q39, some (q33, false), .ld1 (.t q38)⟩, ⟨some q40, some (q33, false), .binI .lss (.t q34) (.t q39)⟩, ⟨some q41, some (q26, true), .pick (.t q33) (.c (.b true)) (.t q40)⟩, ⟨some q42, none, .pick (.t q26) (.t q41) (.c (.b false))⟩]) (.cond (.t q42) (.reg [⟨some q43, none, .mov (.t q3)⟩, ⟨some q44, none, .fa 0 (.t q6)⟩, ⟨some q45, none, .ld1 (.t q44)⟩, ⟨some q46, none, .mov (.t q7)⟩, ⟨some q47, none, .ixS 1 (.t q43) (.t q45)⟩, ⟨none, none, .st 1 (.t q47) (.t q46)⟩, ⟨some q4, none, .mov (.c (.b true))⟩]) .skip))))) K49_0
def L49_2 : IC := .seq (.reg [⟨some q17, none, .binI .lss (.t q16) (.t q15)⟩]) (.seq (.cond (.t q17) .skip (.exit 2)) K49_1)
def K49_3 : IC := .block 1 (.seq (.reg [⟨some q4, none, .mov (.c (.b false))⟩]) (.seq (.reg [⟨some q13, none, .fa 3 (.t q1)⟩, ⟨some q14, none, .ld1 (.t q13)⟩, ⟨some q15, none, .len (.t q14)⟩, ⟨some q16, none, .mov (.c (.i .i64 0))⟩]) (.block 2 (.loop L49_2))))
def L49_4 : IC := .seq (.seq (.reg [⟨some q12, none, .mov (.t q4)⟩]) (.cond (.t q12) .skip (.exit 0))) K49_3
def K49_5 : IC := .seq (.reg [⟨some q49, none, .mov (.t q3)⟩, ⟨some q2, none, .mov (.t q49)⟩]) .ret
def B49 : IC := .seq (.reg [⟨some q1, none, .box (.t q0)⟩, ⟨some q2, none, .mov (.c .nils)⟩]) (.seq (.reg [⟨some q8, none, .bsl 1 1 [.i .i64 0] [(0, 1, .c (.i .i64 (.negSucc 0)))]⟩, ⟨some q9, none, .fa 0 (.t q1)⟩, ⟨some q10, none, .ld1 (.t q9)⟩, ⟨some q11, none, .call 60 [.t q8, .t q10]⟩, ⟨some q3, none, .mov (.t q11)⟩]) (.seq (.seq (.reg [⟨some q4, none, .mov (.c (.b true))⟩]) (.block 0 (.loop L49_4))) K49_5))
def F49 : IFn := ⟨50, [.tmp q2], B49⟩
theorem R49 : F49.res = [.tmp q2] := rfl
theorem fits49 : FitsF Tryd.prog 49 F49 := cmpF_fits (pol := fun _ => false) Tryd.func49 (by kernel_rfl)
def K50_0 : IC := .reg [⟨some q30, none, .binI .add (.t q15) (.c (.i .i64 1))⟩, ⟨some q15, none, .mov (.t q30)⟩]
def K50_1 : IC := .seq (.block 1 (.seq (.reg [⟨some q17, none, .ixS 3 (.t q13) (.t q15)⟩, ⟨some q18, none, .ldN 3 (.t q17)⟩, ⟨some q6, none, .new [.i .i64 0, .nils, .i .i64 0]⟩, ⟨none, none, .st 3 (.t q6) (.t q18)⟩]) (.dreg 0 [(⟨some q19, none, .mov (.t q4)⟩, .pu), (⟨some q20, none, .fa 0 (.t q6)⟩, .pu), (⟨some q21, none, .ld1 (.t q20)⟩, .rd 0), (⟨some q22, none, .ixS 1 (.t q19) (.t q21)⟩, .pu), (⟨some q23, none, .ld1 (.t q22)⟩, .rd 0), (⟨some q24, none, .mov (.t q3)⟩, .pu), (⟨some q25, none, .fa 1 (.t q6)⟩, .pu), (⟨some q26, none, .ld1 (.t q25)⟩, .rd 0), (⟨some q27, none, .call 63 [.t q24, .t q26]⟩, .ad)] [⟨some q28, none, .binI .or (.t q23) (.t q27)⟩, ⟨some q29, none, .ixS 1 (.t q19) (.t q21)⟩, ⟨none, none, .st 1 (.t q29) (.t q28)⟩] []))) K50_0
def L50_2 : IC := .seq (.reg [⟨some q16, none, .binI .lss (.t q15) (.t q14)⟩]) (.seq (.cond (.t q16) .skip (.exit 0)) K50_1)
def K50_3 : IC := .seq (.reg [⟨some q31, none, .mov (.t q4)⟩, ⟨some q2, none, .mov (.t q31)⟩]) .ret
def B50 : IC := .seq (.reg [⟨some q1, none, .box (.t q0)⟩, ⟨some q2, none, .mov (.c .nils)⟩]) (.seq (.reg [⟨some q7, none, .ldN 7 (.t q1)⟩, ⟨some q8, none, .call 62 [.t q7]⟩, ⟨some q3, none, .mov (.t q8)⟩]) (.seq (.reg [⟨some q9, none, .fa 0 (.t q1)⟩, ⟨some q10, none, .ld1 (.t q9)⟩, ⟨some q11, none, .mks 1 8 [.i .u64 0] (.t q10) (.t q10)⟩, ⟨some q4, none, .mov (.t q11)⟩]) (.seq (.seq (.reg [⟨some q12, none, .fa 3 (.t q1)⟩, ⟨some q13, none, .ld1 (.t q12)⟩, ⟨some q14, none, .len (.t q13)⟩, ⟨some q15, none, .mov (.c (.i .i64 0))⟩]) (.block 0 (.loop L50_2))) K50_3)))
def F50 : IFn := ⟨32, [.tmp q2], B50⟩
theorem R50 : F50.res = [.tmp q2] := rfl
theorem fits50 : FitsF Tryd.prog 50 F50 := cmpF_fits (pol := fun _ => false) Tryd.func50 (by kernel_rfl)
def K51_0 : IC := .reg [⟨some q30, none, .binI .add (.t q11) (.c (.i .i64 1))⟩, ⟨some q11, none, .mov (.t q30)⟩]
def K51_1 : IC := .seq (.block 3 (.seq (.reg [⟨some q13, none, .mov (.t q11)⟩, ⟨some q3, none, .mov (.t q13)⟩]) (.seq (.reg [⟨some q14, none, .mov (.t q0)⟩, ⟨some q15, none, .mov (.t q3)⟩, ⟨some q16, none, .ixS 1 (.t q14) (.t q15)⟩, ⟨some q17, none, .ld1 (.t q16)⟩, ⟨some q18, none, .mov (.t q2)⟩, ⟨some q19, none, .call 52 [.t q17, .t q18]⟩]) (.cond (.t q19) (.dreg 0 [(⟨some q20, none, .mov (.t q0)⟩, .pu), (⟨some q21, none, .mov (.t q3)⟩, .pu), (⟨some q22, none, .ixS 1 (.t q20) (.t q21)⟩, .pu), (⟨some q23, none, .ld1 (.t q22)⟩, .rd 0), (⟨some q24, none, .mov (.t q0)⟩, .pu), (⟨some q25, none, .mov (.t q2)⟩, .pu), (⟨some q26, none, .ixS 1 (.t q24) (.t q25)⟩, .pu), (⟨some q27, none, .ld1 (.t q26)⟩, .rd 0)] [⟨some q28, none, .binI .or (.t q23) (.t q27)⟩, ⟨some q29, none, .ixS 1 (.t q20) (.t q21)⟩, ⟨none, none, .st 1 (.t q29) (.t q28)⟩] []) .skip)))) K51_0
def L51_2 : IC := .seq (.reg [⟨some q12, none, .binI .lss (.t q11) (.t q10)⟩]) (.seq (.cond (.t q12) .skip (.exit 2)) K51_1)
def K51_3 : IC := .reg [⟨some q31, none, .binI .add (.t q6) (.c (.i .i64 1))⟩, ⟨some q6, none, .mov (.t q31)⟩]
def K51_4 : IC := .seq (.block 1 (.seq (.reg [⟨some q8, none, .mov (.t q6)⟩, ⟨some q2, none, .mov (.t q8)⟩]) (.seq (.reg [⟨some q9, none, .mov (.t q0)⟩, ⟨some q10, none, .len (.t q9)⟩, ⟨some q11, none, .mov (.c (.i .i64 0))⟩]) (.block 2 (.loop L51_2))))) K51_3
def L51_5 : IC := .seq (.reg [⟨some q7, none, .binI .lss (.t q6) (.t q5)⟩]) (.seq (.cond (.t q7) .skip (.exit 0)) K51_4)
def B51 : IC := .seq (.reg [⟨some q4, none, .mov (.t q0)⟩, ⟨some q5, none, .len (.t q4)⟩, ⟨some q6, none, .mov (.c (.i .i64 0))⟩]) (.block 0 (.loop L51_5))
def F51 : IFn := ⟨32, [], B51⟩
theorem R51 : F51.res = [] := rfl
theorem fits51 : FitsF Tryd.prog 51 F51 := cmpF_fits (pol := fun _ => false) Tryd.func51 (by kernel_rfl)
def B52 : IC := .seq (.reg [⟨some q4, none, .mov (.c (.b false))⟩]) (.seq (.reg [⟨some q5, none, .mov (.t q0)⟩, ⟨some q6, none, .mov (.t q1)⟩, ⟨some q7, none, .call 64 [.t q6]⟩, ⟨some q8, none, .binI .and (.t q5) (.t q7)⟩, ⟨some q9, none, .binI .neq (.t q8) (.c (.i .u64 0))⟩, ⟨some q4, none, .mov (.t q9)⟩]) .ret)
def F52 : IFn := ⟨10, [.tmp q4], B52⟩
theorem R52 : F52.res = [.tmp q4] := rfl
theorem fits52 : FitsF Tryd.prog 52 F52 := cmpF_fits (pol := fun _ => false) Tryd.func52 (by kernel_rfl)
def B55 : IC := .seq (.reg [⟨some q4, none, .mov (.c (.b false))⟩]) (.seq (.reg [⟨some q5, none, .mov (.t q0)⟩, ⟨some q6, none, .binI .geq (.t q5) (.c (.i .i64 0))⟩, ⟨some q7, none, .mov (.t q6)⟩, ⟨some q8, some (q7, true), .mov (.t q0)⟩, ⟨some q9, some (q7, true), .mov (.t q1)⟩, ⟨some q10, some (q7, true), .binI .lss (.t q8) (.t q9)⟩, ⟨some q11, none, .pick (.t q7) (.t q10) (.c (.b false))⟩, ⟨some q4, none, .mov (.t q11)⟩]) .ret)
def F55 : IFn := ⟨12, [.tmp q4], B55⟩
theorem R55 : F55.res = [.tmp q4] := rfl
theorem fits55 : FitsF Tryd.prog 55 F55 := cmpF_fits (pol := fun _ => false) Tryd.func55 (by kernel_rfl)
def B56 : IC := .seq (.reg [⟨some q4, none, .mov (.c (.b false))⟩]) (.seq (.reg [⟨some q5, none, .mov (.c (.fn (.func 65) [] []))⟩]) (.seq (.reg [⟨some q6, none, .mov (.t q0)⟩, ⟨some q7, none, .len (.t q6)⟩, ⟨some q8, none, .mov (.t q1)⟩, ⟨some q9, none, .binI .leq (.t q7) (.t q8)⟩, ⟨some q10, none, .mov (.t q9)⟩, ⟨some q11, some (q10, true), .mov (.t q0)⟩, ⟨some q12, some (q10, true), .mov (.t q5)⟩, ⟨some q13, some (q10, true), .call 59 [.t q11, .t q12]⟩, ⟨some q14, some (q10, true), .un .not (.t q13)⟩, ⟨some q15, none, .pick (.t q10) (.t q14) (.c (.b false))⟩, ⟨some q4, none, .mov (.t q15)⟩]) .ret))
def F56 : IFn := ⟨16, [.tmp q4], B56⟩
theorem R56 : F56.res = [.tmp q4] := rfl
theorem fits56 : FitsF Tryd.prog 56 F56 := cmpF_fits (pol := fun _ => false) Tryd.func56 (by kernel_rfl)
def B57 : IC := .seq (.reg [⟨some q3, none, .mov (.c (.b false))⟩]) (.seq (.reg [⟨some q4, none, .ldN 7 (.t q1)⟩, ⟨some q5, none, .mov (.t q0)⟩, ⟨some q6, none, .call 58 [.t q4, .t q5]⟩, ⟨some q7, none, .un .not (.t q6)⟩, ⟨some q3, none, .mov (.t q7)⟩]) .ret)
def F57 : IFn := ⟨8, [.tmp q3], B57⟩
theorem R57 : F57.res = [.tmp q3] := rfl
theorem fits57 : FitsF Tryd.prog 57 F57 := cmpF_fits (pol := fun _ => false) Tryd.func57 (by kernel_rfl)
def K58_0 : IC := .seq (.reg [⟨some q12, none, .mov (.t q1)⟩, ⟨some q13, none, .fa 0 (.t q2)⟩, ⟨some q14, none, .ld1 (.t q13)⟩, ⟨some q15, none, .call 55 [.t q12, .t q14]⟩, ⟨some q4, none, .mov (.t q15)⟩]) .ret
def B58 : IC := .seq (.reg [⟨some q2, none, .box (.t q0)⟩, ⟨some q4, none, .mov (.c (.b false))⟩]) (.seq (.seq (.reg [⟨some q5, none, .mov (.t q1)⟩, ⟨some q6, none, .binI .lss (.t q5) (.c (.i .i64 0))⟩]) (.cond (.t q6) (.seq (.reg [⟨some q7, none, .mov (.t q1)⟩, ⟨some q8, none, .binI .sub (.c (.i .i64 (.negSucc 0))) (.t q7)⟩, ⟨some q9, none, .fa 1 (.t q2)⟩, ⟨some q10, none, .ld1 (.t q9)⟩, ⟨some q11, none, .call 55 [.t q8, .t q10]⟩, ⟨some q4, none, .mov (.t q11)⟩]) .ret) .skip)) K58_0)
def F58 : IFn := ⟨16, [.tmp q4], B58⟩
theorem R58 : F58.res = [.tmp q4] := rfl
theorem fits58 : FitsF Tryd.prog 58 F58 := cmpF_fits (pol := fun _ => false) Tryd.func58 (by kernel_rfl)
def B59 : IC := .seq (.reg [⟨some q4, none, .mov (.c (.b false))⟩]) (.seq (.reg [⟨some q5, none, .mov (.t q0)⟩, ⟨some q6, none, .mov (.t q1)⟩, ⟨some q7, none, .call 66 [.t q5, .t q6]⟩, ⟨some q8, none, .binI .geq (.t q7) (.c (.i .i64 0))⟩, ⟨some q4, none, .mov (.t q8)⟩]) .ret)
def F59 : IFn := ⟨9, [.tmp q4], B59⟩
theorem R59 : F59.res = [.tmp q4] := rfl
theorem fits59 : FitsF Tryd.prog 59 F59 := cmpF_fits (pol := fun _ => false) Tryd.func59 (by kernel_rfl)
def K60_0 : IC := .block 1 (.dreg 0 [(⟨some q38, none, .mov (.t q8)⟩, .pu), (⟨some q39, none, .mov (.t q7)⟩, .pu), (⟨some q40, none, .mov (.t q8)⟩, .pu), (⟨some q41, none, .cut 1 (.t q39) (some (.t q40)) none⟩, .pu), (⟨some q42, none, .mov (.t q7)⟩, .pu), (⟨some q43, none, .mov (.t q8)⟩, .pu), (⟨some q44, none, .cut 1 (.t q42) none (some (.t q43))⟩, .pu), (⟨some q45, none, .wrm .cpy (.t q41) (.t q44) (.t q44)⟩, .md)] [⟨some q46, none, .binI .add (.t q38) (.t q45)⟩, ⟨some q8, none, .mov (.t q46)⟩] [])
def L60_1 : IC := .seq (.seq (.reg [⟨some q34, none, .mov (.t q8)⟩, ⟨some q35, none, .mov (.t q7)⟩, ⟨some q36, none, .len (.t q35)⟩, ⟨some q37, none, .binI .lss (.t q34) (.t q36)⟩]) (.cond (.t q37) .skip (.exit 0))) K60_0
def K60_2 : IC := .seq (.reg [⟨some q47, none, .mov (.t q7)⟩, ⟨some q4, none, .mov (.t q47)⟩]) .ret
def K60_3 : IC := .seq (.reg [⟨some q28, none, .mov (.t q6)⟩, ⟨some q29, none, .cvI .i64 (.t q28)⟩, ⟨some q30, none, .mks 1 8 [.i .i64 0] (.t q29) (.t q29)⟩, ⟨some q7, none, .mov (.t q30)⟩]) (.seq (.reg [⟨some q31, none, .mov (.t q7)⟩, ⟨some q32, none, .mov (.t q0)⟩, ⟨some q33, none, .wrm .cpy (.t q31) (.t q32) (.t q32)⟩, ⟨some q8, none, .mov (.t q33)⟩]) (.seq (.block 0 (.loop L60_1)) K60_2))
def K60_4 : IC := .seq (.reg [⟨some q13, none, .mov (.t q0)⟩, ⟨some q14, none, .len (.t q13)⟩, ⟨some q15, none, .cvI .u64 (.t q14)⟩, ⟨some q16, none, .mov (.t q1)⟩, ⟨some q17, none, .cvI .u64 (.t q16)⟩, ⟨some q18, none, .call 67 [.t q15, .t q17]⟩, ⟨some q12, none, .mov (.t q18)⟩, ⟨some q19, none, .ext (.t q12) 0⟩, ⟨some q20, none, .ext (.t q12) 1⟩, ⟨some q5, none, .mov (.t q19)⟩, ⟨some q6, none, .mov (.t q20)⟩]) (.seq (.seq (.reg [⟨some q21, none, .mov (.t q5)⟩, ⟨some q22, none, .binI .gtr (.t q21) (.c (.i .u64 0))⟩, ⟨some q23, none, .mov (.t q22)⟩, ⟨some q24, some (q23, false), .mov (.t q6)⟩, ⟨some q25, some (q23, false), .binI .gtr (.t q24) (.c (.i .u64 9223372036854775807))⟩, ⟨some q26, none, .pick (.t q23) (.c (.b true)) (.t q25)⟩]) (.cond (.t q26) (.reg [⟨some q27, none, .bad⟩, ⟨none, none, .bad⟩]) .skip)) K60_3)
def B60 : IC := .seq (.reg [⟨some q4, none, .mov (.c .nils)⟩]) (.seq (.seq (.reg [⟨some q9, none, .mov (.t q1)⟩, ⟨some q10, none, .binI .lss (.t q9) (.c (.i .i64 0))⟩]) (.cond (.t q10) (.reg [⟨some q11, none, .bad⟩, ⟨none, none, .bad⟩]) .skip)) K60_4)
def F60 : IFn := ⟨48, [.tmp q4], B60⟩
theorem R60 : F60.res = [.tmp q4] := rfl
theorem fits60 : FitsF Tryd.prog 60 F60 := cmpF_fits (pol := fun _ => false) Tryd.func60 (by kernel_rfl)
def K61_0 : IC := .reg [⟨some q23, none, .mov (.t q5)⟩, ⟨some q24, none, .mov (.t q8)⟩, ⟨some q25, none, .binI .add (.t q23) (.t q24)⟩, ⟨some q26, none, .mn (.t q25) (.c (.i .i64 1000000000))⟩, ⟨some q5, none, .mov (.t q26)⟩]
def K61_1 : IC := .seq (.seq (.reg [⟨some q21, none, .mov (.t q8)⟩, ⟨some q22, none, .binI .eql (.t q21) (.c (.i .i64 (.negSucc 0)))⟩]) (.cond (.t q22) (.seq (.reg [⟨some q4, none, .mov (.c (.i .i64 (.negSucc 0)))⟩]) .ret) .skip)) K61_0
def K61_2 : IC := .reg [⟨some q27, none, .binI .add (.t q11) (.c (.i .i64 1))⟩, ⟨some q11, none, .mov (.t q27)⟩]
def K61_3 : IC := .seq (.block 1 (.seq (.reg [⟨some q13, none, .ixS 1 (.t q9) (.t q11)⟩, ⟨some q14, none, .ld1 (.t q13)⟩, ⟨some q7, none, .mov (.t q14)⟩]) (.seq (.reg [⟨some q8, none, .mov (.c (.i .i64 1))⟩]) (.seq (.seq (.reg [⟨some q15, none, .mov (.t q7)⟩, ⟨some q16, none, .binI .geq (.t q15) (.c (.i .i64 0))⟩]) (.cond (.t q16) (.reg [⟨some q17, none, .mov (.t q0)⟩, ⟨some q18, none, .mov (.t q7)⟩, ⟨some q19, none, .ixS 1 (.t q17) (.t q18)⟩, ⟨some q20, none, .ld1 (.t q19)⟩, ⟨some q8, none, .mov (.t q20)⟩]) .skip)) K61_1)))) K61_2
def L61_4 : IC := .seq (.reg [⟨some q12, none, .binI .lss (.t q11) (.t q10)⟩]) (.seq (.cond (.t q12) .skip (.exit 0)) K61_3)
def K61_5 : IC := .seq (.reg [⟨some q28, none, .mov (.t q5)⟩, ⟨some q4, none, .mov (.t q28)⟩]) .ret
def B61 : IC := .seq (.reg [⟨some q4, none, .mov (.c (.i .i64 0))⟩]) (.seq (.reg [⟨some q5, none, .mov (.c (.i .i64 0))⟩]) (.seq (.seq (.reg [⟨some q9, none, .mov (.t q1)⟩, ⟨some q10, none, .len (.t q9)⟩, ⟨some q11, none, .mov (.c (.i .i64 0))⟩]) (.block 0 (.loop L61_4))) K61_5))
def F61 : IFn := ⟨29, [.tmp q4], B61⟩
theorem R61 : F61.res = [.tmp q4] := rfl
theorem fits61 : FitsF Tryd.prog 61 F61 := cmpF_fits (pol := fun _ => false) Tryd.func61 (by kernel_rfl)
def K62_0 : IC := .seq (.reg [⟨some q6, none, .ldN 7 (.t q1)⟩, ⟨some q7, none, .call 68 [.t q6]⟩, ⟨some q8, none, .fld1 0 (.t q7)⟩, ⟨some q2, none, .mov (.t q8)⟩]) .ret
def B62 : IC := .seq (.reg [⟨some q1, none, .box (.t q0)⟩, ⟨some q2, none, .mov (.c .nils)⟩]) (.seq (.seq (.reg [⟨some q3, none, .ldN 7 (.t q1)⟩, ⟨some q4, none, .call 15 [.t q3]⟩, ⟨some q5, none, .un .not (.t q4)⟩]) (.cond (.t q5) (.seq (.reg [⟨some q2, none, .mov (.c .nils)⟩]) .ret) .skip)) K62_0)
def F62 : IFn := ⟨9, [.tmp q2], B62⟩
theorem R62 : F62.res = [.tmp q2] := rfl
theorem fits62 : FitsF Tryd.prog 62 F62 := cmpF_fits (pol := fun _ => false) Tryd.func62 (by kernel_rfl)
def K63_0 : IC := .reg [⟨some q36, none, .binI .add (.t q10) (.c (.i .i64 1))⟩, ⟨some q10, none, .mov (.t q36)⟩]
def K63_1 : IC := .seq (.block 1 (.seq (.reg [⟨some q12, none, .mov (.t q10)⟩, ⟨some q13, none, .ixS 1 (.t q8) (.t q10)⟩, ⟨some q14, none, .ld1 (.t q13)⟩, ⟨some q6, none, .mov (.t q12)⟩, ⟨some q7, none, .mov (.t q14)⟩]) (.seq (.reg [⟨some q15, none, .mov (.t q7)⟩, ⟨some q16, none, .binI .geq (.t q15) (.c (.i .i64 0))⟩, ⟨some q17, none, .mov (.t q16)⟩, ⟨some q18, some (q17, true), .mov (.t q0)⟩, ⟨some q19, some (q17, true), .mov (.t q1)⟩, ⟨some q20, some (q17, true), .mov (.t q6)⟩, ⟨some q21, some (q17, true), .cut 1 (.t q19) none (some (.t q20))⟩, ⟨some q22, some (q17, true), .call 69 [.t q18, .t q21]⟩, ⟨some q23, none, .pick (.t q17) (.t q22) (.c (.b false))⟩, ⟨some q24, none, .mov (.t q23)⟩, ⟨some q25, some (q24, true), .mov (.t q0)⟩, ⟨some q26, some (q24, true), .mov (.t q1)⟩, ⟨some q27, some (q24, true), .mov (.t q6)⟩, ⟨some q28, some (q24, true), .binI .add (.t q27) (.c (.i .i64 1))⟩, ⟨some q29, some (q24, true), .cut 1 (.t q26) (some (.t q28)) none⟩, ⟨some q30, some (q24, true), .call 69 [.t q25, .t q29]⟩, ⟨some q31, none, .pick (.t q24) (.t q30) (.c (.b false))⟩]) (.cond (.t q31) (.reg [⟨some q32, none, .mov (.t q5)⟩, ⟨some q33, none, .mov (.t q7)⟩, ⟨some q34, none, .call 64 [.t q33]⟩, ⟨some q35, none, .binI .or (.t q32) (.t q34)⟩, ⟨some q5, none, .mov (.t q35)⟩]) .skip)))) K63_0
def L63_2 : IC := .seq (.reg [⟨some q11, none, .binI .lss (.t q10) (.t q9)⟩]) (.seq (.cond (.t q11) .skip (.exit 0)) K63_1)
def K63_3 : IC := .seq (.reg [⟨some q37, none, .mov (.t q5)⟩, ⟨some q4, none, .mov (.t q37)⟩]) .ret
def B63 : IC := .seq (.reg [⟨some q4, none, .mov (.c (.i .u64 0))⟩]) (.seq (.reg [⟨some q5, none, .mov (.c (.i .u64 0))⟩]) (.seq (.seq (.reg [⟨some q8, none, .mov (.t q1)⟩, ⟨some q9, none, .len (.t q8)⟩, ⟨some q10, none, .mov (.c (.i .i64 0))⟩]) (.block 0 (.loop L63_2))) K63_3))
def F63 : IFn := ⟨38, [.tmp q4], B63⟩
theorem R63 : F63.res = [.tmp q4] := rfl
theorem fits63 : FitsF Tryd.prog 63 F63 := cmpF_fits (pol := fun _ => false) Tryd.func63 (by kernel_rfl)
def B64 : IC := .seq (.reg [⟨some q2, none, .mov (.c (.i .u64 0))⟩]) (.seq (.reg [⟨some q3, none, .mov (.t q0)⟩, ⟨some q4, none, .binI .shl (.c (.i .u64 1)) (.t q3)⟩, ⟨some q2, none, .mov (.t q4)⟩]) .ret)
def F64 : IFn := ⟨5, [.tmp q2], B64⟩
theorem R64 : F64.res = [.tmp q2] := rfl
theorem fits64 : FitsF Tryd.prog 64 F64 := cmpF_fits (pol := fun _ => false) Tryd.func64 (by kernel_rfl)
def B65 : IC := .seq (.reg [⟨some q2, none, .mov (.c (.b false))⟩]) (.seq (.reg [⟨some q3, none, .mov (.t q0)⟩, ⟨some q4, none, .call 55 [.t q3, .c (.i .i64 101)]⟩, ⟨some q5, none, .un .not (.t q4)⟩, ⟨some q2, none, .mov (.t q5)⟩]) .ret)
def F65 : IFn := ⟨6, [.tmp q2], B65⟩
theorem R65 : F65.res = [.tmp q2] := rfl
theorem fits65 : FitsF Tryd.prog 65 F65 := cmpF_fits (pol := fun _ => false) Tryd.func65 (by kernel_rfl)
def K66_0 : IC := .reg [⟨some q18, none, .binI .add (.t q8) (.c (.i .i64 1))⟩, ⟨some q8, none, .mov (.t q18)⟩]
def K66_1 : IC := .seq (.block 1 (.seq (.reg [⟨some q10, none, .mov (.t q8)⟩, ⟨some q5, none, .mov (.t q10)⟩]) (.seq (.reg [⟨some q11, none, .mov (.t q1)⟩, ⟨some q12, none, .mov (.t q0)⟩, ⟨some q13, none, .mov (.t q5)⟩, ⟨some q14, none, .ixS 1 (.t q12) (.t q13)⟩, ⟨some q15, none, .ld1 (.t q14)⟩, ⟨some q16, none, .callv (.t q11) [.t q15]⟩]) (.cond (.t q16) (.seq (.reg [⟨some q17, none, .mov (.t q5)⟩, ⟨some q4, none, .mov (.t q17)⟩]) .ret) .skip)))) K66_0
def L66_2 : IC := .seq (.reg [⟨some q9, none, .binI .lss (.t q8) (.t q7)⟩]) (.seq (.cond (.t q9) .skip (.exit 0)) K66_1)
def K66_3 : IC := .seq (.reg [⟨some q4, none, .mov (.c (.i .i64 (.negSucc 0)))⟩]) .ret
def B66 : IC := .seq (.reg [⟨some q4, none, .mov (.c (.i .i64 0))⟩]) (.seq (.seq (.reg [⟨some q6, none, .mov (.t q0)⟩, ⟨some q7, none, .len (.t q6)⟩, ⟨some q8, none, .mov (.c (.i .i64 0))⟩]) (.block 0 (.loop L66_2))) K66_3)
def F66 : IFn := ⟨19, [.tmp q4], B66⟩
theorem R66 : F66.res = [.tmp q4] := rfl
theorem fits66 : FitsF Tryd.prog 66 F66 := cmpF_fits (pol := fun _ => false) Tryd.func66 (by kernel_rfl)
def K67_0 : IC := .seq (.reg [⟨some q23, none, .mov (.t q0)⟩, ⟨some q24, none, .mov (.t q1)⟩, ⟨some q25, none, .call 71 [.t q23, .t q24]⟩, ⟨some q22, none, .mov (.t q25)⟩, ⟨some q26, none, .ext (.t q22) 0⟩, ⟨some q27, none, .ext (.t q22) 1⟩, ⟨some q8, none, .mov (.t q26)⟩, ⟨some q9, none, .mov (.t q27)⟩]) (.seq (.reg [⟨some q28, none, .mov (.t q8)⟩, ⟨some q29, none, .mov (.t q9)⟩, ⟨some q4, none, .mov (.t q28)⟩, ⟨some q5, none, .mov (.t q29)⟩]) .ret)
def B67 : IC := .seq (.reg [⟨some q4, none, .mov (.c (.i .u64 0))⟩, ⟨some q5, none, .mov (.c (.i .u64 0))⟩]) (.seq (.cond (.c (.b false)) (.seq (.reg [⟨some q11, none, .mov (.t q0)⟩, ⟨some q12, none, .cvI .u32 (.t q11)⟩, ⟨some q13, none, .mov (.t q1)⟩, ⟨some q14, none, .cvI .u32 (.t q13)⟩, ⟨some q15, none, .call 70 [.t q12, .t q14]⟩, ⟨some q10, none, .mov (.t q15)⟩, ⟨some q16, none, .ext (.t q10) 0⟩, ⟨some q17, none, .ext (.t q10) 1⟩, ⟨some q6, none, .mov (.t q16)⟩, ⟨some q7, none, .mov (.t q17)⟩]) (.seq (.reg [⟨some q18, none, .mov (.t q6)⟩, ⟨some q19, none, .cvI .u64 (.t q18)⟩, ⟨some q20, none, .mov (.t q7)⟩, ⟨some q21, none, .cvI .u64 (.t q20)⟩, ⟨some q4, none, .mov (.t q19)⟩, ⟨some q5, none, .mov (.t q21)⟩]) .ret)) .skip) K67_0)
def F67 : IFn := ⟨30, [.tmp q4, .tmp q5], B67⟩
theorem R67 : F67.res = [.tmp q4, .tmp q5] := rfl
theorem fits67 : FitsF Tryd.prog 67 F67 := cmpF_fits (pol := fun _ => false) Tryd.func67 (by kernel_rfl)
def K68_0 : IC := .reg [⟨some q40, none, .binI .add (.t q20) (.c (.i .i64 1))⟩, ⟨some q20, none, .mov (.t q40)⟩]
def K68_1 : IC := .seq (.block 3 (.seq (.reg [⟨some q22, none, .ixS 3 (.t q18) (.t q20)⟩, ⟨some q23, none, .ldN 3 (.t q22)⟩, ⟨some q6, none, .new [.i .i64 0, .nils, .i .i64 0]⟩, ⟨none, none, .st 3 (.t q6) (.t q23)⟩]) (.seq (.reg [⟨some q25, none, .ldN 2 (.t q3)⟩, ⟨some q26, none, .fa 1 (.t q6)⟩, ⟨some q27, none, .ld1 (.t q26)⟩, ⟨some q28, none, .call 72 [.t q25, .t q27]⟩, ⟨some q24, none, .mov (.t q28)⟩, ⟨some q29, none, .ext (.t q24) 0⟩, ⟨some q30, none, .ext (.t q24) 1⟩, ⟨some q7, none, .mov (.t q29)⟩, ⟨some q8, none, .mov (.t q30)⟩]) (.reg [⟨some q31, none, .ldN 2 (.t q3)⟩, ⟨some q32, none, .fa 0 (.t q6)⟩, ⟨some q33, none, .ld1 (.t q32)⟩, ⟨some q34, none, .mov (.t q7)⟩, ⟨some q35, none, .mov (.t q8)⟩, ⟨some q36, none, .call 73 [.t q31, .t q33, .t q34, .t q35]⟩, ⟨some q37, none, .mov (.t q36)⟩, ⟨some q38, some (q37, false), .mov (.t q4)⟩, ⟨some q39, none, .pick (.t q37) (.c (.b true)) (.t q38)⟩, ⟨some q4, none, .mov (.t q39)⟩])))) K68_0
def L68_2 : IC := .seq (.reg [⟨some q21, none, .binI .lss (.t q20) (.t q19)⟩]) (.seq (.cond (.t q21) .skip (.exit 2)) K68_1)
def K68_3 : IC := .block 1 (.seq (.reg [⟨some q4, none, .mov (.c (.b false))⟩]) (.seq (.reg [⟨some q17, none, .fa 3 (.t q1)⟩, ⟨some q18, none, .ld1 (.t q17)⟩, ⟨some q19, none, .len (.t q18)⟩, ⟨some q20, none, .mov (.c (.i .i64 0))⟩]) (.block 2 (.loop L68_2))))
def L68_4 : IC := .seq (.seq (.reg [⟨some q16, none, .mov (.t q4)⟩]) (.cond (.t q16) .skip (.exit 0))) K68_3
def K68_5 : IC := .seq (.reg [⟨some q41, none, .ldN 2 (.t q3)⟩, ⟨none, none, .st 2 (.t q2) (.t q41)⟩]) .ret
def K68_6 : IC := .seq (.seq (.reg [⟨some q4, none, .mov (.c (.b true))⟩]) (.block 0 (.loop L68_4))) K68_5
def B68 : IC := .seq (.reg [⟨some q1, none, .box (.t q0)⟩, ⟨some q2, none, .new [.nils, .nils]⟩]) (.seq (.dreg 3 [(⟨some q9, none, .fa 0 (.t q1)⟩, .pu), (⟨some q10, none, .ld1 (.t q9)⟩, .rd 0), (⟨some q11, none, .mks 1 1 [.b false] (.t q10) (.t q10)⟩, .fl 0), (⟨some q12, none, .fa 0 (.t q1)⟩, .pu), (⟨some q13, none, .ld1 (.t q12)⟩, .rd 0), (⟨some q14, none, .mks 1 8 [.i .u64 0] (.t q13) (.t q13)⟩, .fl 1), (⟨some q15, none, .build [.nils, .nils] [(0, 1, .t q11), (1, 1, .t q14)]⟩, .pu), (⟨some q3, none, .new [.nils, .nils]⟩, .fl 2)] [⟨none, none, .st 2 (.t q3) (.t q15)⟩] []) K68_6)
def F68 : IFn := ⟨42, [.cN q2 2], B68⟩
theorem R68 : F68.res = [.cN q2 2] := rfl
theorem fits68 : FitsF Tryd.prog 68 F68 := cmpF_fits (pol := fun _ => false) Tryd.func68 (by kernel_rfl)
def B69 : IC := .seq (.reg [⟨some q2, none, .box (.t q0)⟩, ⟨some q4, none, .mov (.c (.b false))⟩]) (.seq (.reg [⟨some q6, none, .mkf (.func 74) [] [.t q2]⟩, ⟨some q5, none, .mov (.t q6)⟩]) (.seq (.reg [⟨some q7, none, .mov (.t q1)⟩, ⟨some q8, none, .mov (.t q5)⟩, ⟨some q9, none, .call 59 [.t q7, .t q8]⟩, ⟨some q10, none, .un .not (.t q9)⟩, ⟨some q4, none, .mov (.t q10)⟩]) .ret))
def F69 : IFn := ⟨11, [.tmp q4], B69⟩
theorem R69 : F69.res = [.tmp q4] := rfl
theorem fits69 : FitsF Tryd.prog 69 F69 := cmpF_fits (pol := fun _ => false) Tryd.func69 (by kernel_rfl)
def B70 : IC := .seq (.reg [⟨some q4, none, .mov (.c (.i .u32 0))⟩, ⟨some q5, none, .mov (.c (.i .u32 0))⟩]) (.seq (.reg [⟨some q7, none, .mov (.t q0)⟩, ⟨some q8, none, .cvI .u64 (.t q7)⟩, ⟨some q9, none, .mov (.t q1)⟩, ⟨some q10, none, .cvI .u64 (.t q9)⟩, ⟨some q11, none, .binI .mul (.t q8) (.t q10)⟩, ⟨some q6, none, .mov (.t q11)⟩]) (.seq (.reg [⟨some q12, none, .mov (.t q6)⟩, ⟨some q13, none, .binI .shr (.t q12) (.c (.i .u64 32))⟩, ⟨some q14, none, .cvI .u32 (.t q13)⟩, ⟨some q15, none, .mov (.t q6)⟩, ⟨some q16, none, .cvI .u32 (.t q15)⟩, ⟨some q4, none, .mov (.t q14)⟩, ⟨some q5, none, .mov (.t q16)⟩]) .ret))
def F70 : IFn := ⟨17, [.tmp q4, .tmp q5], B70⟩
theorem R70 : F70.res = [.tmp q4, .tmp q5] := rfl
theorem fits70 : FitsF Tryd.prog 70 F70 := cmpF_fits (pol := fun _ => false) Tryd.func70 (by kernel_rfl)
def B71 : IC := .seq (.reg [⟨some q4, none, .mov (.c (.i .u64 0))⟩, ⟨some q5, none, .mov (.c (.i .u64 0))⟩]) (.seq (.reg [⟨some q14, none, .mov (.t q0)⟩, ⟨some q15, none, .binI .and (.t q14) (.c (.i .u64 4294967295))⟩, ⟨some q6, none, .mov (.t q15)⟩]) (.seq (.reg [⟨some q16, none, .mov (.t q0)⟩, ⟨some q17, none, .binI .shr (.t q16) (.c (.i .u64 32))⟩, ⟨some q7, none, .mov (.t q17)⟩]) (.seq (.reg [⟨some q18, none, .mov (.t q1)⟩, ⟨some q19, none, .binI .and (.t q18) (.c (.i .u64 4294967295))⟩, ⟨some q8, none, .mov (.t q19)⟩]) (.seq (.reg [⟨some q20, none, .mov (.t q1)⟩, ⟨some q21, none, .binI .shr (.t q20) (.c (.i .u64 32))⟩, ⟨some q9, none, .mov (.t q21)⟩]) (.seq (.reg [⟨some q22, none, .mov (.t q6)⟩, ⟨some q23, none, .mov (.t q8)⟩, ⟨some q24, none, .binI .mul (.t q22) (.t q23)⟩, ⟨some q10, none, .mov (.t q24)⟩]) (.seq (.reg [⟨some q25, none, .mov (.t q7)⟩, ⟨some q26, none, .mov (.t q8)⟩, ⟨some q27, none, .binI .mul (.t q25) (.t q26)⟩, ⟨some q28, none, .mov (.t q10)⟩, ⟨some q29, none, .binI .shr (.t q28) (.c (.i .u64 32))⟩, ⟨some q30, none, .binI .add (.t q27) (.t q29)⟩, ⟨some q11, none, .mov (.t q30)⟩]) (.seq (.reg [⟨some q31, none, .mov (.t q11)⟩, ⟨some q32, none, .binI .and (.t q31) (.c (.i .u64 4294967295))⟩, ⟨some q12, none, .mov (.t q32)⟩]) (.seq (.reg [⟨some q33, none, .mov (.t q11)⟩, ⟨some q34, none, .binI .shr (.t q33) (.c (.i .u64 32))⟩, ⟨some q13, none, .mov (.t q34)⟩]) (.seq (.reg [⟨some q35, none, .mov (.t q12)⟩, ⟨some q36, none, .mov (.t q6)⟩, ⟨some q37, none, .mov (.t q9)⟩, ⟨some q38, none, .binI .mul (.t q36) (.t q37)⟩, ⟨some q39, none, .binI .add (.t q35) (.t q38)⟩, ⟨some q12, none, .mov (.t q39)⟩]) (.seq (.reg [⟨some q40, none, .mov (.t q7)⟩, ⟨some q41, none, .mov (.t q9)⟩, ⟨some q42, none, .binI .mul (.t q40) (.t q41)⟩, ⟨some q43, none, .mov (.t q13)⟩, ⟨some q44, none, .binI .add (.t q42) (.t q43)⟩, ⟨some q45, none, .mov (.t q12)⟩, ⟨some q46, none, .binI .shr (.t q45) (.c (.i .u64 32))⟩, ⟨some q47, none, .binI .add (.t q44) (.t q46)⟩, ⟨some q4, none, .mov (.t q47)⟩]) (.seq (.reg [⟨some q48, none, .mov (.t q0)⟩, ⟨some q49, none, .mov (.t q1)⟩, ⟨some q50, none, .binI .mul (.t q48) (.t q49)⟩, ⟨some q5, none, .mov (.t q50)⟩]) .ret)))))))))))
def F71 : IFn := ⟨51, [.tmp q4, .tmp q5], B71⟩
theorem R71 : F71.res = [.tmp q4, .tmp q5] := rfl
theorem fits71 : FitsF Tryd.prog 71 F71 := cmpF_fits (pol := fun _ => false) Tryd.func71 (by kernel_rfl)
def K72_0 : IC := .seq (.reg [⟨some q22, none, .mov (.t q6)⟩, ⟨some q23, none, .fa 1 (.t q2)⟩, ⟨some q24, none, .ld1 (.t q23)⟩, ⟨some q25, none, .mov (.t q8)⟩, ⟨some q26, none, .ixS 1 (.t q24) (.t q25)⟩, ⟨some q27, none, .ld1 (.t q26)⟩, ⟨some q28, none, .binI .or (.t q22) (.t q27)⟩, ⟨some q6, none, .mov (.t q28)⟩]) (.seq (.reg [⟨some q29, none, .fa 0 (.t q2)⟩, ⟨some q30, none, .ld1 (.t q29)⟩, ⟨some q31, none, .mov (.t q8)⟩, ⟨some q32, none, .ixS 1 (.t q30) (.t q31)⟩, ⟨some q33, none, .ld1 (.t q32)⟩, ⟨some q34, none, .un .not (.t q33)⟩]) (.cond (.t q34) (.seq (.reg [⟨some q35, none, .mov (.t q6)⟩, ⟨some q4, none, .mov (.t q35)⟩, ⟨some q5, none, .mov (.c (.b false))⟩]) .ret) .skip))
def K72_1 : IC := .reg [⟨some q36, none, .binI .add (.t q11) (.c (.i .i64 1))⟩, ⟨some q11, none, .mov (.t q36)⟩]
def K72_2 : IC := .seq (.block 1 (.seq (.reg [⟨some q13, none, .ixS 1 (.t q9) (.t q11)⟩, ⟨some q14, none, .ld1 (.t q13)⟩, ⟨some q8, none, .mov (.t q14)⟩]) (.seq (.seq (.reg [⟨some q15, none, .mov (.t q8)⟩, ⟨some q16, none, .binI .lss (.t q15) (.c (.i .i64 0))⟩]) (.cond (.t q16) (.seq (.reg [⟨some q17, none, .mov (.t q6)⟩, ⟨some q18, none, .mov (.t q8)⟩, ⟨some q19, none, .binI .sub (.c (.i .i64 (.negSucc 0))) (.t q18)⟩, ⟨some q20, none, .call 75 [.t q19]⟩, ⟨some q21, none, .binI .or (.t q17) (.t q20)⟩, ⟨some q4, none, .mov (.t q21)⟩, ⟨some q5, none, .mov (.c (.b false))⟩]) .ret) .skip)) K72_0))) K72_1
def L72_3 : IC := .seq (.reg [⟨some q12, none, .binI .lss (.t q11) (.t q10)⟩]) (.seq (.cond (.t q12) .skip (.exit 0)) K72_2)
def K72_4 : IC := .seq (.reg [⟨some q37, none, .mov (.t q6)⟩, ⟨some q4, none, .mov (.t q37)⟩, ⟨some q5, none, .mov (.c (.b true))⟩]) .ret
def B72 : IC := .seq (.reg [⟨some q2, none, .box (.t q0)⟩, ⟨some q4, none, .mov (.c (.i .u64 0))⟩, ⟨some q5, none, .mov (.c (.b false))⟩]) (.seq (.reg [⟨some q6, none, .mov (.c (.i .u64 0))⟩]) (.seq (.seq (.reg [⟨some q9, none, .mov (.t q1)⟩, ⟨some q10, none, .len (.t q9)⟩, ⟨some q11, none, .mov (.c (.i .i64 0))⟩]) (.block 0 (.loop L72_3))) K72_4))
def F72 : IFn := ⟨38, [.tmp q4, .tmp q5], B72⟩
theorem R72 : F72.res = [.tmp q4, .tmp q5] := rfl
theorem fits72 : FitsF Tryd.prog 72 F72 := cmpF_fits (pol := fun _ => false) Tryd.func72 (by kernel_rfl)
def K73_0 : IC := .seq (.reg [⟨some q51, none, .mov (.t q9)⟩, ⟨some q8, none, .mov (.t q51)⟩]) .ret
def B73 : IC := .seq (.reg [⟨some q4, none, .box (.t q0)⟩, ⟨some q8, none, .mov (.c (.b false))⟩]) (.seq (.reg [⟨some q10, none, .mov (.t q2)⟩, ⟨some q11, none, .fa 1 (.t q4)⟩, ⟨some q12, none, .ld1 (.t q11)⟩, ⟨some q13, none, .mov (.t q1)⟩, ⟨some q14, none, .ixS 1 (.t q12) (.t q13)⟩, ⟨some q15, none, .ld1 (.t q14)⟩, ⟨some q16, none, .binI .or (.t q10) (.t q15)⟩, ⟨some q2, none, .mov (.t q16)⟩]) (.seq (.reg [⟨some q17, none, .mov (.t q3)⟩, ⟨some q18, none, .mov (.t q17)⟩, ⟨some q19, some (q18, false), .fa 0 (.t q4)⟩, ⟨some q20, some (q18, false), .ld1 (.t q19)⟩, ⟨some q21, some (q18, false), .mov (.t q1)⟩, ⟨some q22, some (q18, false), .ixS 1 (.t q20) (.t q21)⟩, ⟨some q23, some (q18, false), .ld1 (.t q22)⟩, ⟨some q24, none, .pick (.t q18) (.c (.b true)) (.t q23)⟩, ⟨some q3, none, .mov (.t q24)⟩]) (.seq (.reg [⟨some q25, none, .mov (.t q2)⟩, ⟨some q26, none, .fa 1 (.t q4)⟩, ⟨some q27, none, .ld1 (.t q26)⟩, ⟨some q28, none, .mov (.t q1)⟩, ⟨some q29, none, .ixS 1 (.t q27) (.t q28)⟩, ⟨some q30, none, .ld1 (.t q29)⟩, ⟨some q31, none, .binI .neq (.t q25) (.t q30)⟩, ⟨some q32, none, .mov (.t q31)⟩, ⟨some q33, some (q32, false), .mov (.t q3)⟩, ⟨some q34, some (q32, false), .fa 0 (.t q4)⟩, ⟨some q35, some (q32, false), .ld1 (.t q34)⟩, ⟨some q36, some (q32, false), .mov (.t q1)⟩, ⟨some q37, some (q32, false), .ixS 1 (.t q35) (.t q36)⟩, ⟨some q38, some (q32, false), .ld1 (.t q37)⟩, ⟨some q39, some (q32, false), .binB .neq (.t q33) (.t q38)⟩, ⟨some q40, none, .pick (.t q32) (.c (.b true)) (.t q39)⟩, ⟨some q9, none, .mov (.t q40)⟩]) (.seq (.dreg 0 [(⟨some q41, none, .fa 1 (.t q4)⟩, .pu), (⟨some q42, none, .ld1 (.t q41)⟩, .rd 0), (⟨some q43, none, .mov (.t q1)⟩, .pu), (⟨some q44, none, .fa 0 (.t q4)⟩, .pu), (⟨some q45, none, .ld1 (.t q44)⟩, .rd 0), (⟨some q46, none, .mov (.t q1)⟩, .pu), (⟨some q47, none, .mov (.t q2)⟩, .pu), (⟨some q48, none, .mov (.t q3)⟩, .pu), (⟨some q49, none, .ixS 1 (.t q42) (.t q43)⟩, .pu), (⟨none, none, .st 1 (.t q49) (.t q47)⟩, .md)] [⟨some q50, none, .ixS 1 (.t q45) (.t q46)⟩, ⟨none, none, .st 1 (.t q50) (.t q48)⟩] [(9, 4)]) K73_0))))
def F73 : IFn := ⟨52, [.tmp q8], B73⟩
theorem R73 : F73.res = [.tmp q8] := rfl
theorem fits73 : FitsF Tryd.prog 73 F73 := cmpF_fits (pol := fun _ => false) Tryd.func73 (by kernel_rfl)
def B74 : IC := .seq (.reg [⟨some q3, none, .mov (.c (.b false))⟩]) (.seq (.reg [⟨some q4, none, .mov (.t q0)⟩, ⟨some q5, none, .binI .lss (.t q4) (.c (.i .i64 0))⟩, ⟨some q6, none, .mov (.t q5)⟩, ⟨some q7, some (q6, false), .ld1 (.t q1)⟩, ⟨some q8, some (q6, false), .mov (.t q0)⟩, ⟨some q9, some (q6, false), .ixS 1 (.t q7) (.t q8)⟩, ⟨some q10, some (q6, false), .ld1 (.t q9)⟩, ⟨some q11, some (q6, false), .un .not (.t q10)⟩, ⟨some q12, none, .pick (.t q6) (.c (.b true)) (.t q11)⟩, ⟨some q3, none, .mov (.t q12)⟩]) .ret)
def F74 : IFn := ⟨13, [.tmp q3], B74⟩
theorem R74 : F74.res = [.tmp q3] := rfl
theorem fits74 : FitsF Tryd.prog 74 F74 := cmpF_fits (pol := fun _ => false) Tryd.func74 (by kernel_rfl)
def B75 : IC := .seq (.reg [⟨some q2, none, .mov (.c (.i .u64 0))⟩]) (.seq (.reg [⟨some q3, none, .mov (.t q0)⟩, ⟨some q4, none, .binI .shl (.c (.i .u64 1)) (.t q3)⟩, ⟨some q2, none, .mov (.t q4)⟩]) .ret)
def F75 : IFn := ⟨5, [.tmp q2], B75⟩
theorem R75 : F75.res = [.tmp q2] := rfl
theorem fits75 : FitsF Tryd.prog 75 F75 := cmpF_fits (pol := fun _ => false) Tryd.func75 (by kernel_rfl)
end Go.Proofs.YtpdcahaggacacaaDoor.K
set_option maxRecDepth 100000
namespace Go.Proofs.YtpdcahaggacacaaDoor.Rr
open Go Ev
def fnsL : List (Nat × IFn) := [(5, K.F5), (6, K.F6), (9, K.F9), (11, K.F11), (14, K.F14), (15, K.F15), (16, K.F16), (17, K.F17), (18, K.F18), (19, K.F19), (24, K.F24), (25, K.F25), (26, K.F26), (30, K.F30), (31, K.F31), (32, K.F32), (33, K.F33), (35, K.F35), (36, K.F36), (37, K.F37), (38, K.F38), (39, K.F39), (43, K.F43), (44, K.F44), (45, K.F45), (48, K.F48), (49, K.F49), (50, K.F50), (51, K.F51), (52, K.F52), (55, K.F55), (56, K.F56), (57, K.F57), (58, K.F58), (59, K.F59), (60, K.F60), (61, K.F61), (62, K.F62), (63, K.F63), (64, K.F64), (65, K.F65), (66, K.F66), (67, K.F67), (68, K.F68), (69, K.F69), (70, K.F70), (71, K.F71), (72, K.F72), (73, K.F73), (74, K.F74), (75, K.F75)]
def fnsT : T IFn := ⟨⟨none, none, none, none, none, some K.F5, some K.F6, none, none, some K.F9, none, some K.F11, none, none, some K.F14, some K.F15⟩, some ⟨w1, ⟨some K.F16, some K.F17, some K.F18, some K.F19, none, none, none, none, some K.F24, some K.F25, some K.F26, none, none, none, some K.F30, some K.F31⟩, ⟨some K.F32, some K.F33, none, some K.F35, some K.F36, some K.F37, some K.F38, some K.F39, none, none, none, some K.F43, some K.F44, some K.F45, none, none⟩, ⟨some K.F48, some K.F49, some K.F50, some K.F51, some K.F52, none, none, some K.F55, some K.F56, some K.F57, some K.F58, some K.F59, some K.F60, some K.F61, some K.F62, some K.F63⟩, ⟨some K.F64, some K.F65, some K.F66, some K.F67, some K.F68, some K.F69, some K.F70, some K.F71, some K.F72, some K.F73, some K.F74, some K.F75, none, none, none, none⟩, w1, w1, w1, w1, w1, w1, w1, w1, w1, w1, w1⟩, none, none, .lf⟩
theorem fnsT_eq : fnsT = mkT fnsL := by kernel_rfl
noncomputable def fns (g : Nat) : Option IFn := idK fnsT g
theorem fns_ok : ∀ g fn, fns g = some fn → FitsF Tryd.prog g fn :=
  fits_of fnsT_eq fun x hx => by
    unfold fnsL at hx
    simp only [List.mem_cons, List.not_mem_nil, or_false] at hx
    rcases hx with rfl | rfl | rfl | rfl | rfl | rfl | rfl | rfl | rfl | rfl | rfl | rfl | rfl | rfl | rfl | rfl | rfl | rfl | rfl | rfl | rfl | rfl | rfl | rfl | rfl | rfl | rfl | rfl | rfl | rfl | rfl | rfl | rfl | rfl | rfl | rfl | rfl | rfl | rfl | rfl | rfl | rfl | rfl | rfl | rfl | rfl | rfl | rfl | rfl | rfl | rfl
    · exact K.fits5
    · exact K.fits6
    · exact K.fits9
    · exact K.fits11
    · exact K.fits14
    · exact K.fits15
    · exact K.fits16
    · exact K.fits17
    · exact K.fits18
    · exact K.fits19
    · exact K.fits24
    · exact K.fits25
    · exact K.fits26
    · exact K.fits30
    · exact K.fits31
    · exact K.fits32
    · exact K.fits33
    · exact K.fits35
    · exact K.fits36
    · exact K.fits37
    · exact K.fits38
    · exact K.fits39
    · exact K.fits43
    · exact K.fits44
    · exact K.fits45
    · exact K.fits48
    · exact K.fits49
    · exact K.fits50
    · exact K.fits51
    · exact K.fits52
    · exact K.fits55
    · exact K.fits56
    · exact K.fits57
    · exact K.fits58
    · exact K.fits59
    · exact K.fits60
    · exact K.fits61
    · exact K.fits62
    · exact K.fits63
    · exact K.fits64
    · exact K.fits65
    · exact K.fits66
    · exact K.fits67
    · exact K.fits68
    · exact K.fits69
    · exact K.fits70
    · exact K.fits71
    · exact K.fits72
    · exact K.fits73
    · exact K.fits74
    · exact K.fits75
end Go.Proofs.YtpdcahaggacacaaDoor.Rr
set_option maxRecDepth 100000
namespace Go.Proofs.YtpdcahaggacacaaDoor.Ev
open Go
def fnsL : List (Nat × IFn) := [(6, K.F6), (9, K.F9), (11, K.F11), (14, K.F14), (15, K.F15), (16, K.F16), (17, K.F17), (18, K.F18), (19, K.F19), (24, K.F24), (25, K.F25), (26, K.F26), (30, K.F30), (31, K.F31), (32, K.F32), (33, K.F33), (35, K.F35), (36, K.F36), (37, K.F37), (38, K.F38), (39, K.F39), (43, K.F43), (44, K.F44), (45, K.F45), (48, K.F48), (49, K.F49), (50, K.F50), (51, K.F51), (52, K.F52), (55, K.F55), (56, K.F56), (57, K.F57), (58, K.F58), (59, K.F59), (60, K.F60), (61, K.F61), (62, K.F62), (63, K.F63), (64, K.F64), (65, K.F65), (66, K.F66), (67, K.F67), (68, K.F68), (69, K.F69), (70, K.F70), (71, K.F71), (72, K.F72), (73, K.F73), (74, K.F74), (75, K.F75)]
def fnsT : T IFn := ⟨⟨none, none, none, none, none, none, some K.F6, none, none, some K.F9, none, some K.F11, none, none, some K.F14, some K.F15⟩, some ⟨w1, ⟨some K.F16, some K.F17, some K.F18, some K.F19, none, none, none, none, some K.F24, some K.F25, some K.F26, none, none, none, some K.F30, some K.F31⟩, ⟨some K.F32, some K.F33, none, some K.F35, some K.F36, some K.F37, some K.F38, some K.F39, none, none, none, some K.F43, some K.F44, some K.F45, none, none⟩, ⟨some K.F48, some K.F49, some K.F50, some K.F51, some K.F52, none, none, some K.F55, some K.F56, some K.F57, some K.F58, some K.F59, some K.F60, some K.F61, some K.F62, some K.F63⟩, ⟨some K.F64, some K.F65, some K.F66, some K.F67, some K.F68, some K.F69, some K.F70, some K.F71, some K.F72, some K.F73, some K.F74, some K.F75, none, none, none, none⟩, w1, w1, w1, w1, w1, w1, w1, w1, w1, w1, w1⟩, none, none, .lf⟩
theorem fnsT_eq : fnsT = mkT fnsL := by kernel_rfl
noncomputable def fns (g : Nat) : Option IFn := idK fnsT g
theorem fns_ok : ∀ g fn, fns g = some fn → FitsF Tryd.prog g fn :=
  fits_of fnsT_eq fun x hx => by
    unfold fnsL at hx
    simp only [List.mem_cons, List.not_mem_nil, or_false] at hx
    rcases hx with rfl | rfl | rfl | rfl | rfl | rfl | rfl | rfl | rfl | rfl | rfl | rfl | rfl | rfl | rfl | rfl | rfl | rfl | rfl | rfl | rfl | rfl | rfl | rfl | rfl | rfl | rfl | rfl | rfl | rfl | rfl | rfl | rfl | rfl | rfl | rfl | rfl | rfl | rfl | rfl | rfl | rfl | rfl | rfl | rfl | rfl | rfl | rfl | rfl | rfl
    · exact K.fits6
    · exact K.fits9
    · exact K.fits11
    · exact K.fits14
    · exact K.fits15
    · exact K.fits16
    · exact K.fits17
    · exact K.fits18
    · exact K.fits19
    · exact K.fits24
    · exact K.fits25
    · exact K.fits26
    · exact K.fits30
    · exact K.fits31
    · exact K.fits32
    · exact K.fits33
    · exact K.fits35
    · exact K.fits36
    · exact K.fits37
    · exact K.fits38
    · exact K.fits39
    · exact K.fits43
    · exact K.fits44
    · exact K.fits45
    · exact K.fits48
    · exact K.fits49
    · exact K.fits50
    · exact K.fits51
    · exact K.fits52
    · exact K.fits55
    · exact K.fits56
    · exact K.fits57
    · exact K.fits58
    · exact K.fits59
    · exact K.fits60
    · exact K.fits61
    · exact K.fits62
    · exact K.fits63
    · exact K.fits64
    · exact K.fits65
    · exact K.fits66
    · exact K.fits67
    · exact K.fits68
    · exact K.fits69
    · exact K.fits70
    · exact K.fits71
    · exact K.fits72
    · exact K.fits73
    · exact K.fits74
    · exact K.fits75
end Go.Proofs.YtpdcahaggacacaaDoor.Ev
set_option linter.unusedSimpArgs false
set_option linter.unusedVariables false
namespace Go.Proofs.YtpdcahaggacacaaDoor.Ev
open Go
def CLe (c c' : CallM) : Prop := ∀ g a M r, c g a M = some r → c' g a M = some r
theorem CLe.refl (c : CallM) : CLe c c := fun _ _ _ _ h => h
theorem CLe.trans {a b c : CallM} (h : CLe a b) (k : CLe b c) : CLe a c := fun g x M r e => k g x M r (h g x M r e)
theorem iop_mono {c c' : CallM} (h : CLe c c') {f : Fr} {M : MH} {o : Iop} {r : MV × MH} (e : Iop.ev c f M o = some r) : Iop.ev c' f M o = some r := by
  cases o with
  | call g l => exact h _ _ _ _ e
  | callv x l =>
    simp only [Iop.ev] at e ⊢
    split at e
    · exact h _ _ _ _ e
    · cases e
  | _ => exact e
theorem evO_mono {c c' : CallM} (h : CLe c c') {f : Fr} {M : MH} {p : IOper} {r : Fr × MH} (e : evO c f M p = some r) : evO c' f M p = some r := by
  unfold evO at e ⊢
  cases hw : wantM f p.gd with
  | none => rw [hw] at e; cases e
  | some b =>
    rw [hw] at e
    cases b with
    | false => exact e
    | true =>
      simp only at e ⊢
      cases h1 : p.io.ev c f M with
      | none => rw [h1] at e; cases e
      | some x => rw [h1] at e; rw [iop_mono h h1]; exact e
theorem evL_mono {c c' : CallM} (h : CLe c c') : ∀ {l : List IOper} {f : Fr} {M : MH} {r : Fr × MH}, evL c l f M = some r → evL c' l f M = some r
  | [], f, M, r, e => e
  | p :: l, f, M, r, e => by
    rw [evL_cons] at e ⊢
    cases h1 : evO c f M p with
    | none => rw [h1] at e; cases e
    | some x => rw [h1] at e; rw [evO_mono h h1]; exact evL_mono h e
theorem evD1_mono {c c' : CallM} (h : CLe c c') {b0 : Nat} {f : Fr} {hs : List MH} {pd : List (Nat × MO)} {p : IOper} {k : DK} {r : MV × List MH × List (Nat × MO)} (e : evD1 c b0 f hs pd p k = some r) : evD1 c' b0 f hs pd p k = some r := by
  unfold evD1 at e ⊢
  cases hw : wantM f p.gd with
  | none => rw [hw] at e; cases e
  | some b =>
    rw [hw] at e
    cases b with
    | false => exact e
    | true =>
      simp only at e ⊢
      cases k with
      | pu =>
        cases hs with
        | nil => exact e
        | cons M r' =>
          simp only at e ⊢
          cases h1 : p.io.ev c f M with
          | none => rw [h1] at e; cases e
          | some x => rw [h1] at e; rw [iop_mono h h1]; exact e
      | rd b =>
        simp only at e ⊢
        cases hb : hs[b]? with
        | none => rw [hb] at e; cases e
        | some M =>
          rw [hb] at e
          simp only at e ⊢
          cases h1 : p.io.ev c f M with
          | none => rw [h1] at e; cases e
          | some x => rw [h1] at e; rw [iop_mono h h1]; exact e
      | ad =>
        cases hs with
        | nil => exact e
        | cons M r' =>
          simp only at e ⊢
          cases h1 : p.io.ev c f M.lift with
          | none => rw [h1] at e; cases e
          | some x => rw [h1] at e; rw [iop_mono h h1]; exact e
      | md =>
        cases hs with
        | nil => exact e
        | cons M r' =>
          simp only at e ⊢
          cases h1 : p.io.ev c f M with
          | none => rw [h1] at e; cases e
          | some x => rw [h1] at e; rw [iop_mono h h1]; exact e
      | fl j => exact e
      | ma js =>
        cases hs with
        | nil => exact e
        | cons M r' =>
          simp only at e ⊢
          cases h2 : pickL pd b0 js with
          | none => rw [h2] at e; cases e
          | some as1 =>
            rw [h2] at e
            simp only at e ⊢
            cases h1 : p.io.ev c f (adoptM as1 M) with
            | none => rw [h1] at e; cases e
            | some x => rw [h1] at e; rw [iop_mono h h1]; exact e
theorem evD_mono {c c' : CallM} (h : CLe c c') {b0 : Nat} : ∀ {l : List (IOper × DK)} {f : Fr} {hs : List MH} {pd : List (Nat × MO)} {r : Fr × List MH × List (Nat × MO)}, evD c b0 l f hs pd = some r → evD c' b0 l f hs pd = some r
  | [], f, hs, pd, r, e => e
  | p :: l, f, hs, pd, r, e => by
    rw [evD_cons] at e ⊢
    cases h1 : evD1 c b0 f hs pd p.1 p.2 with
    | none => rw [h1] at e; cases e
    | some x =>
      obtain ⟨m, hs', o⟩ := x
      rw [h1] at e
      rw [evD1_mono h h1]
      simp only at e ⊢
      cases h2 : evD c b0 l (setD f p.1.dst m) hs' (pd ++ o) with
      | none => rw [h2] at e; cases e
      | some y => rw [h2] at e; rw [evD_mono h h2]; exact e
theorem callF_le {fns : Nat → Option IFn} {n m : Nat} (h : ∀ c f M r, run fns n c f M = some r → run fns m c f M = some r) : CLe (callF fns n) (callF fns m) := by
  intro g a M r e
  unfold callF at e ⊢
  cases hg : fns g with
  | none => rw [hg] at e; cases e
  | some fn =>
    rw [hg] at e
    simp only at e ⊢
    cases hb : Nat.ble a.length fn.sz with
    | false => rw [hb] at e; cases e
    | true =>
      rw [hb] at e
      simp only [cond_true] at e ⊢
      cases h1 : run fns n fn.body (argsF a 0 .lf) M with
      | none => rw [h1] at e; cases e
      | some x => rw [h1] at e; rw [h _ _ _ _ h1]; exact e
theorem run_mono1 (fns : Nat → Option IFn) : ∀ (n : Nat) (c : IC) (f : Fr) (M : MH) (r : Ex × Fr × MH), run fns n c f M = some r → run fns (n + 1) c f M = some r
  | 0 => by intro c f M r h; rw [run_zero] at h; cases h
  | n + 1 => by
    have ih := run_mono1 fns n
    have hc := callF_le ih
    intro c f M r h
    rw [run_succ] at h ⊢
    cases c with
    | skip => exact h
    | bad => exact h
    | exit id => exact h
    | ret => exact h
    | reg l =>
      simp only at h ⊢
      cases h1 : evL (callF fns n) l f M with
      | none => rw [h1] at h; cases h
      | some x => rw [h1] at h; rw [evL_mono hc h1]; exact h
    | dreg q l lB xs =>
      simp only at h ⊢
      cases hb : Nat.ble M.lo M.n with
      | false => rw [hb] at h; cases h
      | true =>
        rw [hb] at h
        simp only [cond_true] at h ⊢
        cases h1 : evD (callF fns n) M.n l f [M.room q] [] with
        | none => rw [h1] at h; cases h
        | some x =>
          obtain ⟨f1, hs, os⟩ := x
          rw [h1] at h
          rw [evD_mono hc h1]
          cases hs with
          | nil => cases h
          | cons M1 hs =>
            simp only at h ⊢
            cases ha : apartL xs l M.n f1 (M1 :: hs) with
            | false => rw [ha] at h; cases h
            | true =>
              rw [ha] at h
              simp only [cond_true] at h ⊢
              cases h2 : evL (callF fns n) lB f1 (adoptM (lateL l M.n os) M1) with
              | none => rw [h2] at h; cases h
              | some y => rw [h2] at h; rw [evL_mono hc h2]; exact h
    | seq a b =>
      simp only at h ⊢
      cases h1 : run fns n a f M with
      | none => rw [h1] at h; cases h
      | some x =>
        obtain ⟨ex, f', M'⟩ := x
        rw [h1] at h
        rw [ih _ _ _ _ h1]
        cases ex with
        | norm => exact ih _ _ _ _ h
        | exit i => exact h
        | ret => exact h
    | cond x a b =>
      simp only at h ⊢
      split at h
      · exact ih _ _ _ _ h
      · exact ih _ _ _ _ h
      · cases h
    | block id a =>
      simp only at h ⊢
      cases h1 : run fns n a f M with
      | none => rw [h1] at h; cases h
      | some x =>
        rw [h1] at h
        rw [ih _ _ _ _ h1]
        exact h
    | loop a =>
      simp only at h ⊢
      cases h1 : run fns n a f M with
      | none => rw [h1] at h; cases h
      | some x =>
        obtain ⟨ex, f', M'⟩ := x
        rw [h1] at h
        rw [ih _ _ _ _ h1]
        cases ex with
        | norm => exact ih _ _ _ _ h
        | exit i => exact h
        | ret => exact h
theorem run_mono (fns : Nat → Option IFn) {n m : Nat} (hnm : n ≤ m) {c : IC} {f : Fr} {M : MH} {r : Ex × Fr × MH} (h : run fns n c f M = some r) : run fns m c f M = some r := by
  induction hnm with
  | refl => exact h
  | step _ ih => exact run_mono1 fns _ c f M r ih
theorem callF_mono (fns : Nat → Option IFn) {n m : Nat} (hnm : n ≤ m) : CLe (callF fns n) (callF fns m) := callF_le fun _ _ _ _ h => run_mono fns hnm h
open Classical in
noncomputable def callA (fns : Nat → Option IFn) : CallM := fun g args M => if h : ∃ r, ∃ n, callF fns n g args M = some r then some (Classical.choose h) else none
theorem callA_of {fns : Nat → Option IFn} {n g : Nat} {args : List MV} {M : MH} {r : MV × MH} (h : callF fns n g args M = some r) : callA fns g args M = some r := by
  unfold callA
  have hx : ∃ r, ∃ n, callF fns n g args M = some r := ⟨r, n, h⟩
  rw [dif_pos hx]
  obtain ⟨k, hk⟩ := Classical.choose_spec hx
  have h1 := callF_mono fns (Nat.le_max_left n k) _ _ _ _ h
  have h2 := callF_mono fns (Nat.le_max_right n k) _ _ _ _ hk
  rw [h1] at h2
  exact h2.symm
theorem callA_ex {fns : Nat → Option IFn} {g : Nat} {args : List MV} {M : MH} {r : MV × MH} (h : callA fns g args M = some r) : ∃ n, callF fns n g args M = some r := by
  unfold callA at h
  split at h
  · rename_i hx
    injection h with h
    rw [← h]
    exact Classical.choose_spec hx
  · cases h
theorem callF_callA (fns : Nat → Option IFn) (n : Nat) : CLe (callF fns n) (callA fns) := fun _ _ _ _ h => callA_of h
theorem iop_fuel {fns : Nat → Option IFn} {f : Fr} {M : MH} {o : Iop} {r : MV × MH} (e : Iop.ev (callA fns) f M o = some r) : ∃ n, Iop.ev (callF fns n) f M o = some r := by
  cases o with
  | call g l => exact callA_ex e
  | callv x l =>
    simp only [Iop.ev] at e ⊢
    split at e
    · exact callA_ex e
    · cases e
  | _ => exact ⟨0, e⟩
theorem evO_fuel {fns : Nat → Option IFn} {f : Fr} {M : MH} {p : IOper} {r : Fr × MH} (e : evO (callA fns) f M p = some r) : ∃ n, evO (callF fns n) f M p = some r := by
  unfold evO at e ⊢
  cases hw : wantM f p.gd with
  | none => rw [hw] at e; cases e
  | some b =>
    rw [hw] at e
    cases b with
    | false => exact ⟨0, e⟩
    | true =>
      simp only at e ⊢
      cases h1 : p.io.ev (callA fns) f M with
      | none => rw [h1] at e; cases e
      | some x =>
        rw [h1] at e
        obtain ⟨n, hn⟩ := iop_fuel h1
        exact ⟨n, by rw [hn]; exact e⟩
theorem evL_fuel {fns : Nat → Option IFn} : ∀ {l : List IOper} {f : Fr} {M : MH} {r : Fr × MH}, evL (callA fns) l f M = some r → ∃ n, evL (callF fns n) l f M = some r
  | [], f, M, r, e => ⟨0, e⟩
  | p :: l, f, M, r, e => by
    rw [evL_cons] at e
    cases h1 : evO (callA fns) f M p with
    | none => rw [h1] at e; cases e
    | some x =>
      rw [h1] at e
      obtain ⟨n1, k1⟩ := evO_fuel h1
      obtain ⟨n2, k2⟩ := evL_fuel e
      refine ⟨max n1 n2, ?_⟩
      rw [evL_cons, evO_mono (callF_mono fns (Nat.le_max_left n1 n2)) k1]
      exact evL_mono (callF_mono fns (Nat.le_max_right n1 n2)) k2
abbrev Post := Ex → Fr → MH → Prop
def Wp (fns : Nat → Option IFn) (c : IC) (f : Fr) (M : MH) (Q : Post) : Prop := ∃ n ex f' M', run fns n c f M = some (ex, f', M') ∧ Q ex f' M'
variable {fns : Nat → Option IFn} {f : Fr} {M : MH} {Q : Post}
theorem Wp.mono {c : IC} {Q Q' : Post} (h : Wp fns c f M Q) (hq : ∀ ex f' M', Q ex f' M' → Q' ex f' M') : Wp fns c f M Q' :=
  let ⟨n, ex, f', M', h1, h2⟩ := h
  ⟨n, ex, f', M', h1, hq _ _ _ h2⟩
theorem Wp_skip (h : Q .norm f M) : Wp fns .skip f M Q := ⟨1, _, _, _, by rw [run_succ], h⟩
theorem Wp_exit {id : Nat} (h : Q (.exit id) f M) : Wp fns (.exit id) f M Q := ⟨1, _, _, _, by rw [run_succ], h⟩
theorem Wp_ret (h : Q .ret f M) : Wp fns .ret f M Q := ⟨1, _, _, _, by rw [run_succ], h⟩
def Wl (fns : Nat → Option IFn) (l : List IOper) (f : Fr) (M : MH) (K : Fr → MH → Prop) : Prop := ∃ f' M', evL (callA fns) l f M = some (f', M') ∧ K f' M'
theorem Wp_reg {l : List IOper} (h : Wl fns l f M fun f' M' => Q .norm f' M') : Wp fns (.reg l) f M Q := by
  obtain ⟨f', M', h1, h2⟩ := h
  obtain ⟨n, hn⟩ := evL_fuel h1
  exact ⟨n + 1, _, _, _, by rw [run_succ]; simp only; rw [hn], h2⟩
theorem Wl_nil {K : Fr → MH → Prop} (h : K f M) : Wl fns [] f M K := ⟨f, M, rfl, h⟩
theorem Wl_op {K : Fr → MH → Prop} {d : Option Ky} {o : Iop} {l : List IOper} {m : MV} {M' : MH} (h : o.ev (callA fns) f M = some (m, M')) (hk : Wl fns l (setD f d m) M' K) : Wl fns (⟨d, none, o⟩ :: l) f M K := by
  obtain ⟨f1, M1, h1, h2⟩ := hk
  exact ⟨f1, M1, by rw [evL_cons]; unfold evO; simp only [wantM, h]; exact h1, h2⟩
theorem Wl_yes {K : Fr → MH → Prop} {d : Option Ky} {g : Ky × Bool} {o : Iop} {l : List IOper} {m : MV} {M' : MH} (hg : wantM f (some g) = some true) (h : o.ev (callA fns) f M = some (m, M')) (hk : Wl fns l (setD f d m) M' K) : Wl fns (⟨d, some g, o⟩ :: l) f M K := by
  obtain ⟨f1, M1, h1, h2⟩ := hk
  exact ⟨f1, M1, by rw [evL_cons]; unfold evO; simp only [hg, h]; exact h1, h2⟩
theorem Wl_no {K : Fr → MH → Prop} {d : Option Ky} {g : Ky × Bool} {o : Iop} {l : List IOper} (hg : wantM f (some g) = some false) (hk : Wl fns l (setD f d (.tp [])) M K) : Wl fns (⟨d, some g, o⟩ :: l) f M K := by
  obtain ⟨f1, M1, h1, h2⟩ := hk
  exact ⟨f1, M1, by rw [evL_cons]; unfold evO; simp only [hg]; exact h1, h2⟩
def thenQ (fns : Nat → Option IFn) (b : IC) (Q : Post) : Post := fun ex f M => match ex with
  | .norm => Wp fns b f M Q
  | ex => Q ex f M
theorem Wp_seq {a b : IC} (h : Wp fns a f M (thenQ fns b Q)) : Wp fns (.seq a b) f M Q := by
  obtain ⟨n, ex, f1, M1, h1, h2⟩ := h
  cases ex with
  | norm =>
    obtain ⟨m, ex, f2, M2, k1, k2⟩ := h2
    refine ⟨max n m + 1, ex, f2, M2, ?_, k2⟩
    rw [run_succ]
    simp only
    rw [run_mono fns (Nat.le_max_left n m) h1]
    exact run_mono fns (Nat.le_max_right n m) k1
  | exit i => exact ⟨n + 1, _, _, _, by rw [run_succ]; simp only; rw [h1], h2⟩
  | ret => exact ⟨n + 1, _, _, _, by rw [run_succ]; simp only; rw [h1], h2⟩
theorem Wp_true {x : X} {a b : IC} (hx : x.ev f = .b true) (h : Wp fns a f M Q) : Wp fns (.cond x a b) f M Q := by
  obtain ⟨n, ex, f1, M1, h1, h2⟩ := h
  exact ⟨n + 1, _, _, _, by rw [run_succ]; simp only; rw [hx]; exact h1, h2⟩
theorem Wp_false {x : X} {a b : IC} (hx : x.ev f = .b false) (h : Wp fns b f M Q) : Wp fns (.cond x a b) f M Q := by
  obtain ⟨n, ex, f1, M1, h1, h2⟩ := h
  exact ⟨n + 1, _, _, _, by rw [run_succ]; simp only; rw [hx]; exact h1, h2⟩
def blockQ (id : Nat) (Q : Post) : Post := fun ex f M => match ex with
  | .exit i => bif i == id then Q .norm f M else Q (.exit i) f M
  | ex => Q ex f M
theorem Wp_block {id : Nat} {a : IC} (h : Wp fns a f M (blockQ id Q)) : Wp fns (.block id a) f M Q := by
  obtain ⟨n, ex, f1, M1, h1, h2⟩ := h
  cases ex with
  | norm => exact ⟨n + 1, _, _, _, by rw [run_succ]; simp only; rw [h1], h2⟩
  | ret => exact ⟨n + 1, _, _, _, by rw [run_succ]; simp only; rw [h1], h2⟩
  | exit i =>
    cases hb : i == id with
    | true => exact ⟨n + 1, .norm, f1, M1, by rw [run_succ]; simp only; rw [h1]; simp only [hb, cond_true], by simpa only [blockQ, hb, cond_true] using h2⟩
    | false => exact ⟨n + 1, .exit i, f1, M1, by rw [run_succ]; simp only; rw [h1]; simp only [hb, cond_false], by simpa only [blockQ, hb, cond_false] using h2⟩
def Cp (fns : Nat → Option IFn) (g : Nat) (args : List MV) (M : MH) (K : MV → MH → Prop) : Prop := ∃ m M', callA fns g args M = some (m, M') ∧ K m M'
def retQ (fn : IFn) (K : MV → MH → Prop) : Post := fun ex f M => match ex with
  | .exit _ => False
  | _ => ∃ l, resL f M fn.res = some l ∧ K (packM l) M
theorem Cp_call {g : Nat} {fn : IFn} {args : List MV} {K : MV → MH → Prop} (hg : fns g = some fn) (hs : args.length ≤ fn.sz) (h : Wp fns fn.body (argsF args 0 .lf) M (retQ fn K)) : Cp fns g args M K := by
  obtain ⟨n, ex, f1, M1, h1, h2⟩ := h
  cases ex with
  | exit i => exact h2.elim
  | norm =>
    obtain ⟨l, h3, h4⟩ := h2
    refine ⟨packM l, M1, callA_of (n := n) ?_, h4⟩
    unfold callF
    rw [hg]
    simp only
    rw [Nat.ble_eq_true_of_le hs, cond_true, h1]
    simp only [h3]
  | ret =>
    obtain ⟨l, h3, h4⟩ := h2
    refine ⟨packM l, M1, callA_of (n := n) ?_, h4⟩
    unfold callF
    rw [hg]
    simp only
    rw [Nat.ble_eq_true_of_le hs, cond_true, h1]
    simp only [h3]
theorem Cp.mono {g : Nat} {args : List MV} {K K' : MV → MH → Prop} (h : Cp fns g args M K) (hk : ∀ m M', K m M' → K' m M') : Cp fns g args M K' :=
  let ⟨m, M', h1, h2⟩ := h
  ⟨m, M', h1, hk _ _ h2⟩
end Go.Proofs.YtpdcahaggacacaaDoor.Ev
set_option linter.unusedSimpArgs false
set_option linter.unusedVariables false
namespace Go.Proofs.YtpdcahaggacacaaDoor.Ev
open Go
variable {fns : Nat → Option IFn} {f : Fr} {M : MH} {Q : Post}
theorem Wp_reg_iff {l : List IOper} : Wp fns (.reg l) f M Q = Wl fns l f M fun f' M' => Q .norm f' M' := by
  refine propext ⟨fun h => ?_, Wp_reg⟩
  obtain ⟨n, ex, f', M', h1, h2⟩ := h
  cases n with
  | zero => rw [run_zero] at h1; cases h1
  | succ n =>
    rw [run_succ] at h1
    simp only at h1
    cases h3 : evL (callF fns n) l f M with
    | none => rw [h3] at h1; cases h1
    | some x =>
      rw [h3] at h1
      injection h1 with h1; injection h1 with a b; injection b with b c
      subst a b c
      exact ⟨_, _, evL_mono (callF_callA fns n) h3, h2⟩
theorem Wp_seq_iff {a b : IC} : Wp fns (.seq a b) f M Q = Wp fns a f M (thenQ fns b Q) := by
  refine propext ⟨fun h => ?_, Wp_seq⟩
  obtain ⟨n, ex, f', M', h1, h2⟩ := h
  cases n with
  | zero => rw [run_zero] at h1; cases h1
  | succ n =>
    rw [run_succ] at h1
    simp only at h1
    cases h3 : run fns n a f M with
    | none => rw [h3] at h1; cases h1
    | some x =>
      obtain ⟨e, f1, M1⟩ := x
      rw [h3] at h1
      refine ⟨n, e, f1, M1, h3, ?_⟩
      cases e with
      | norm => exact ⟨n, _, _, _, h1, h2⟩
      | exit i => injection h1 with h1; injection h1 with a b; injection b with b c; subst a b c; exact h2
      | ret => injection h1 with h1; injection h1 with a b; injection b with b c; subst a b c; exact h2
theorem Wp_block_iff {id : Nat} {a : IC} : Wp fns (.block id a) f M Q = Wp fns a f M (blockQ id Q) := by
  refine propext ⟨fun h => ?_, Wp_block⟩
  obtain ⟨n, ex, f', M', h1, h2⟩ := h
  cases n with
  | zero => rw [run_zero] at h1; cases h1
  | succ n =>
    rw [run_succ] at h1
    simp only at h1
    cases h3 : run fns n a f M with
    | none => rw [h3] at h1; cases h1
    | some x =>
      obtain ⟨e, f1, M1⟩ := x
      rw [h3] at h1
      refine ⟨n, e, f1, M1, h3, ?_⟩
      cases e with
      | norm => injection h1 with h1; injection h1 with a b; injection b with b c; subst a b c; exact h2
      | ret => injection h1 with h1; injection h1 with a b; injection b with b c; subst a b c; exact h2
      | exit i =>
        simp only at h1
        unfold blockQ
        cases hb : i == id with
        | true =>
          rw [hb] at h1
          injection h1 with h1; injection h1 with a b; injection b with b c; subst a b c; simpa only [hb, cond_true] using h2
        | false =>
          rw [hb] at h1
          injection h1 with h1; injection h1 with a b; injection b with b c; subst a b c; simpa only [hb, cond_false] using h2
theorem Wp_skip_iff : Wp fns .skip f M Q = Q .norm f M := by
  refine propext ⟨fun h => ?_, Wp_skip⟩
  obtain ⟨n, ex, f', M', h1, h2⟩ := h
  cases n with
  | zero => rw [run_zero] at h1; cases h1
  | succ n => rw [run_succ] at h1; injection h1 with h1; injection h1 with a b; injection b with b c; subst a b c; exact h2
theorem Wp_exit_iff {id : Nat} : Wp fns (.exit id) f M Q = Q (.exit id) f M := by
  refine propext ⟨fun h => ?_, Wp_exit⟩
  obtain ⟨n, ex, f', M', h1, h2⟩ := h
  cases n with
  | zero => rw [run_zero] at h1; cases h1
  | succ n => rw [run_succ] at h1; injection h1 with h1; injection h1 with a b; injection b with b c; subst a b c; exact h2
theorem Wp_ret_iff : Wp fns .ret f M Q = Q .ret f M := by
  refine propext ⟨fun h => ?_, Wp_ret⟩
  obtain ⟨n, ex, f', M', h1, h2⟩ := h
  cases n with
  | zero => rw [run_zero] at h1; cases h1
  | succ n => rw [run_succ] at h1; injection h1 with h1; injection h1 with a b; injection b with b c; subst a b c; exact h2
class KB (α : Type) where
  K : α → Prop
class PB where
  P : Prop
def condP (v : MV) [a : PB] [b : PB] : Prop := match v with
  | .b true => a.P
  | .b false => b.P
  | _ => False
theorem condP_t {a b : PB} : @condP (.b true) a b = a.P := rfl
theorem condP_f {a b : PB} : @condP (.b false) a b = b.P := rfl
theorem Wp_cond_iff {x : X} {a b : IC} : Wp fns (.cond x a b) f M Q = @condP (x.ev f) ⟨Wp fns a f M Q⟩ ⟨Wp fns b f M Q⟩ := by
  refine propext ⟨fun h => ?_, fun h => ?_⟩
  · obtain ⟨n, ex, f', M', h1, h2⟩ := h
    cases n with
    | zero => rw [run_zero] at h1; cases h1
    | succ n =>
      rw [run_succ] at h1
      simp only at h1
      split at h1
      · rename_i hx; rw [hx]; exact ⟨n, _, _, _, h1, h2⟩
      · rename_i hx; rw [hx]; exact ⟨n, _, _, _, h1, h2⟩
      · cases h1
  · unfold condP at h
    split at h
    · rename_i hx; exact Wp_true hx h
    · rename_i hx; exact Wp_false hx h
    · exact h.elim
def bindP {α : Type} (r : Option α) [k : KB α] : Prop := ∃ x, r = some x ∧ k.K x
theorem bindP_some {α : Type} (x : α) {k : KB α} : @bindP α (some x) k = k.K x := propext ⟨fun ⟨y, h, k⟩ => by injection h with h; subst h; exact k, fun h => ⟨x, rfl, h⟩⟩
theorem bindP_call {g : Nat} {args : List MV} {K : MV × MH → Prop} {K' : MV → MH → Prop} (h : Cp fns g args M K') (k : ∀ m M', K' m M' → K (m, M')) : @bindP _ (callA fns g args M) ⟨K⟩ := by
  obtain ⟨m, M', h1, h2⟩ := h
  exact ⟨_, h1, k _ _ h2⟩
theorem Wl_nil_iff {K : Fr → MH → Prop} : Wl fns [] f M K = K f M := propext ⟨fun ⟨f', M', h, k⟩ => by injection h with h; injection h with h1 h2; subst h1 h2; exact k, Wl_nil⟩
theorem Wl_op_iff {K : Fr → MH → Prop} {d : Option Ky} {o : Iop} {l : List IOper} : Wl fns (⟨d, none, o⟩ :: l) f M K = @bindP _ (o.ev (callA fns) f M) ⟨fun r => Wl fns l (setD f d r.1) r.2 K⟩ := by
  refine propext ⟨fun h => ?_, fun h => ?_⟩
  · obtain ⟨f', M', h1, h2⟩ := h
    rw [evL_cons] at h1
    unfold evO at h1
    simp only [wantM] at h1
    cases h3 : o.ev (callA fns) f M with
    | none => rw [h3] at h1; cases h1
    | some x => rw [h3] at h1; exact ⟨x, rfl, _, _, h1, h2⟩
  · obtain ⟨⟨m, M1⟩, h1, h2⟩ := h
    exact Wl_op h1 h2
def gdP (v : MV) (w : Bool) [x : PB] [y : PB] : Prop := match v with
  | .b b => match b == w with
    | true => x.P
    | false => y.P
  | .tp _ => y.P
  | _ => False
theorem gdP_tt {a b : PB} : @gdP (.b true) true a b = a.P := rfl
theorem gdP_tf {a b : PB} : @gdP (.b true) false a b = b.P := rfl
theorem gdP_ft {a b : PB} : @gdP (.b false) true a b = b.P := rfl
theorem gdP_ff {a b : PB} : @gdP (.b false) false a b = a.P := rfl
theorem gdP_tp {l : List MV} {w : Bool} {a b : PB} : @gdP (.tp l) w a b = b.P := rfl
theorem want_ev (p : Ky) (w : Bool) : wantM f (some (p, w)) = match X.ev f (.t p) with
    | .b b => some (b == w)
    | .tp _ => some false
    | _ => none := by
  show (match f.get p with
    | some (.b b) => some (b == w)
    | some (.tp _) => some false
    | _ => none) = _
  unfold X.ev
  simp only
  cases f.get p with
  | none => rfl
  | some m => cases m <;> rfl
theorem Wl_gd_iff {K : Fr → MH → Prop} {d : Option Ky} {p : Ky} {w : Bool} {o : Iop} {l : List IOper} : Wl fns (⟨d, some (p, w), o⟩ :: l) f M K = @gdP (X.ev f (.t p)) w ⟨@bindP _ (o.ev (callA fns) f M) ⟨fun r => Wl fns l (setD f d r.1) r.2 K⟩⟩ ⟨Wl fns l (setD f d (.tp [])) M K⟩ := by
  have hw := want_ev (f := f) p w
  refine propext ⟨fun h => ?_, fun h => ?_⟩
  · obtain ⟨f', M', h1, h2⟩ := h
    rw [evL_cons] at h1
    unfold evO at h1
    simp only [hw] at h1
    unfold gdP
    generalize X.ev f (.t p) = v at h1 hw ⊢
    cases v <;> simp only at h1 ⊢ <;> try (cases h1; done)
    · rename_i b
      cases hb : b == w with
      | true =>
        rw [hb] at h1
        simp only at h1 ⊢
        cases h3 : o.ev (callA fns) f M with
        | none => rw [h3] at h1; cases h1
        | some x => rw [h3] at h1; exact ⟨x, rfl, _, _, h1, h2⟩
      | false => rw [hb] at h1; exact ⟨_, _, h1, h2⟩
    · exact ⟨_, _, h1, h2⟩
  · unfold gdP at h
    generalize X.ev f (.t p) = v at h hw
    cases v <;> simp only at h hw
    · rename_i b
      cases hb : b == w with
      | true =>
        rw [hb] at h hw
        obtain ⟨⟨m, M1⟩, h1, h2⟩ := h
        exact Wl_yes hw h1 h2
      | false => rw [hb] at h hw; exact Wl_no hw h
    · exact Wl_no hw h
theorem Wp_seq_reg {l : List IOper} {b : IC} : Wp fns (.seq (.reg l) b) f M Q = Wl fns l f M fun f' M' => Wp fns b f' M' Q := by
  rw [Wp_seq_iff, Wp_reg_iff]; rfl
theorem Wp_seq_skip {b : IC} : Wp fns (.seq .skip b) f M Q = Wp fns b f M Q := by
  rw [Wp_seq_iff, Wp_skip_iff]; rfl
theorem Wp_seq_exit {i : Nat} {b : IC} : Wp fns (.seq (.exit i) b) f M Q = Q (.exit i) f M := by
  rw [Wp_seq_iff, Wp_exit_iff]; rfl
theorem Wp_seq_ret {b : IC} : Wp fns (.seq .ret b) f M Q = Q .ret f M := by
  rw [Wp_seq_iff, Wp_ret_iff]; rfl
theorem Wp_seq_cond {x : X} {a b d : IC} : Wp fns (.seq (.cond x a b) d) f M Q = @condP (x.ev f) ⟨Wp fns a f M (thenQ fns d Q)⟩ ⟨Wp fns b f M (thenQ fns d Q)⟩ := by
  rw [Wp_seq_iff, Wp_cond_iff]
theorem Wp_seq_block {i : Nat} {a d : IC} : Wp fns (.seq (.block i a) d) f M Q = Wp fns a f M (blockQ i (thenQ fns d Q)) := by
  rw [Wp_seq_iff, Wp_block_iff]
theorem Wp_seq_loop {a d : IC} : Wp fns (.seq (.loop a) d) f M Q = Wp fns (.loop a) f M (thenQ fns d Q) := Wp_seq_iff
theorem Wp_seq_dreg {r : Nat} {l : List (IOper × DK)} {lB : List IOper} {xs : List (Nat × Nat)} {d : IC} : Wp fns (.seq (.dreg r l lB xs) d) f M Q = Wp fns (.dreg r l lB xs) f M (thenQ fns d Q) := Wp_seq_iff
theorem Wp_seq_seq {a b d : IC} : Wp fns (.seq (.seq a b) d) f M Q = Wp fns (.seq a (.seq b d)) f M Q := by
  rw [Wp_seq_iff, Wp_seq_iff, Wp_seq_iff]
  congr 1
  funext ex f' M'
  cases ex with
  | norm => exact Wp_seq_iff.symm
  | exit i => rfl
  | ret => rfl
def Wd (fns : Nat → Option IFn) (b0 : Nat) (l : List (IOper × DK)) (f : Fr) (hs : List MH) (pd : List (Nat × MO)) (K : Fr → List MH → List (Nat × MO) → Prop) : Prop := ∃ f' hs' os, evD (callA fns) b0 l f hs pd = some (f', hs', os) ∧ K f' hs' os
theorem Wd_nil {b0 : Nat} {hs : List MH} {pd : List (Nat × MO)} {K : Fr → List MH → List (Nat × MO) → Prop} : Wd fns b0 [] f hs pd K = K f hs [] := propext ⟨fun ⟨f', hs', os, h, k⟩ => by injection h with h; injection h with h1 h2; injection h2 with h2 h3; subst h1 h2 h3; exact k, fun h => ⟨f, hs, [], rfl, h⟩⟩
theorem Wd_cons {b0 : Nat} {p : IOper} {q : DK} {l : List (IOper × DK)} {hs : List MH} {pd : List (Nat × MO)} {K : Fr → List MH → List (Nat × MO) → Prop} : Wd fns b0 ((p, q) :: l) f hs pd K = @bindP _ (evD1 (callA fns) b0 f hs pd p q) ⟨fun r => Wd fns b0 l (setD f p.dst r.1) r.2.1 (pd ++ r.2.2) fun f' hs' os => K f' hs' (r.2.2 ++ os)⟩ := by
  refine propext ⟨fun h => ?_, fun h => ?_⟩
  · obtain ⟨f', hs', os, h1, h2⟩ := h
    rw [evD_cons] at h1
    simp only at h1
    cases h3 : evD1 (callA fns) b0 f hs pd p q with
    | none => rw [h3] at h1; cases h1
    | some x =>
      obtain ⟨m, hs1, o⟩ := x
      rw [h3] at h1
      simp only at h1
      cases h4 : evD (callA fns) b0 l (setD f p.dst m) hs1 (pd ++ o) with
      | none => rw [h4] at h1; cases h1
      | some y =>
        obtain ⟨f2, hs2, os2⟩ := y
        rw [h4] at h1
        injection h1 with h1; injection h1 with a b; injection b with b c
        subst a b c
        exact ⟨_, rfl, _, _, _, h4, h2⟩
  · obtain ⟨⟨m, hs1, o⟩, h1, f', hs', os, h2, h3⟩ := h
    refine ⟨f', hs', o ++ os, ?_, h3⟩
    rw [evD_cons]
    simp only
    rw [h1]
    simp only
    rw [h2]
theorem wd_some {b0 : Nat} {d : Option Ky} {g : Option (Ky × Bool)} {o : Iop} {q : DK} {l : List (IOper × DK)} {hs hs' : List MH} {pd : List (Nat × MO)} {m : MV} {os : List (Nat × MO)} {K : Fr → List MH → List (Nat × MO) → Prop} (h : evD1 (callA fns) b0 f hs pd ⟨d, g, o⟩ q = some (m, hs', os)) : Wd fns b0 ((⟨d, g, o⟩, q) :: l) f hs pd K = Wd fns b0 l (setD f d m) hs' (pd ++ os) fun f' hs' os' => K f' hs' (os ++ os') := by
  rw [Wd_cons, h, bindP_some]
  rfl
theorem wd_none {b0 : Nat} {d : Option Ky} {g : Option (Ky × Bool)} {o : Iop} {q : DK} {l : List (IOper × DK)} {hs : List MH} {pd : List (Nat × MO)} {K : Fr → List MH → List (Nat × MO) → Prop} (h : evD1 (callA fns) b0 f hs pd ⟨d, g, o⟩ q = none) : Wd fns b0 ((⟨d, g, o⟩, q) :: l) f hs pd K = False := by
  rw [Wd_cons, h]
  exact propext ⟨fun ⟨x, e, _⟩ => (by cases e), fun h => h.elim⟩
theorem bindP_none {α : Type} {k : KB α} : @bindP α none k = False := propext ⟨fun ⟨x, e, _⟩ => (by cases e), fun h => h.elim⟩
theorem wd_end {b0 : Nat} {l : List (IOper × DK)} {hs : List MH} {pd : List (Nat × MO)} {K : Fr → List MH → List (Nat × MO) → Prop} : (Wd fns b0 l f hs (pd ++ []) fun f' hs' os' => K f' hs' ([] ++ os')) = Wd fns b0 l f hs pd K := by
  rw [List.append_nil]; rfl
theorem Wd_pu {b0 : Nat} {d : Option Ky} {o : Iop} {l : List (IOper × DK)} {r : List MH} {pd : List (Nat × MO)} {K : Fr → List MH → List (Nat × MO) → Prop} : Wd fns b0 ((⟨d, none, o⟩, .pu) :: l) f (M :: r) pd K = @bindP _ (o.ev (callA fns) f M) ⟨fun x => Wd fns b0 l (setD f d x.1) (M :: r) pd K⟩ := by
  cases h : o.ev (callA fns) f M with
  | none => rw [bindP_none]; exact wd_none (by simp only [evD1, wantM, h])
  | some x => rw [bindP_some]; exact (wd_some (m := x.1) (hs' := M :: r) (os := []) (by simp only [evD1, wantM, h])).trans wd_end
theorem Wd_rd {b b0 : Nat} {d : Option Ky} {o : Iop} {l : List (IOper × DK)} {hs : List MH} {pd : List (Nat × MO)} {K : Fr → List MH → List (Nat × MO) → Prop} : Wd fns b0 ((⟨d, none, o⟩, .rd b) :: l) f hs pd K = @bindP _ (hs[b]?) ⟨fun M => @bindP _ (o.ev (callA fns) f M) ⟨fun x => Wd fns b0 l (setD f d x.1) hs pd K⟩⟩ := by
  cases hb : hs[b]? with
  | none => rw [bindP_none]; exact wd_none (by simp only [evD1, wantM, hb])
  | some M =>
    rw [bindP_some]
    simp only
    cases h : o.ev (callA fns) f M with
    | none => rw [bindP_none]; exact wd_none (by simp only [evD1, wantM, hb, h])
    | some x => rw [bindP_some]; exact (wd_some (m := x.1) (hs' := hs) (os := []) (by simp only [evD1, wantM, hb, h])).trans wd_end
theorem Wd_ad {b0 : Nat} {d : Option Ky} {o : Iop} {l : List (IOper × DK)} {r : List MH} {pd : List (Nat × MO)} {K : Fr → List MH → List (Nat × MO) → Prop} : Wd fns b0 ((⟨d, none, o⟩, .ad) :: l) f (M :: r) pd K = @bindP _ (o.ev (callA fns) f M.lift) ⟨fun x => Wd fns b0 l (setD f d x.1) (x.2.down M.lo :: M :: r) pd K⟩ := by
  cases h : o.ev (callA fns) f M.lift with
  | none => rw [bindP_none]; exact wd_none (by simp only [evD1, wantM, h])
  | some x => rw [bindP_some]; exact (wd_some (m := x.1) (hs' := x.2.down M.lo :: M :: r) (os := []) (by simp only [evD1, wantM, h])).trans wd_end
theorem Wd_md {b0 : Nat} {d : Option Ky} {o : Iop} {l : List (IOper × DK)} {r : List MH} {pd : List (Nat × MO)} {K : Fr → List MH → List (Nat × MO) → Prop} : Wd fns b0 ((⟨d, none, o⟩, .md) :: l) f (M :: r) pd K = @bindP _ (o.ev (callA fns) f M) ⟨fun x => Wd fns b0 l (setD f d x.1) (x.2 :: M :: r) pd K⟩ := by
  cases h : o.ev (callA fns) f M with
  | none => rw [bindP_none]; exact wd_none (by simp only [evD1, wantM, h])
  | some x => rw [bindP_some]; exact (wd_some (m := x.1) (hs' := x.2 :: M :: r) (os := []) (by simp only [evD1, wantM, h])).trans wd_end
theorem Wd_fl {j b0 : Nat} {d : Option Ky} {o : Iop} {l : List (IOper × DK)} {hs : List MH} {pd : List (Nat × MO)} {K : Fr → List MH → List (Nat × MO) → Prop} : Wd fns b0 ((⟨d, none, o⟩, .fl j) :: l) f hs pd K = @bindP _ (floatEv o f (b0 + j)) ⟨fun x => Wd fns b0 l (setD f d x.1) hs (pd ++ [(b0 + j, x.2)]) fun f' hs' os' => K f' hs' ((b0 + j, x.2) :: os')⟩ := by
  cases h : floatEv o f (b0 + j) with
  | none => rw [bindP_none]; exact wd_none (by simp only [evD1, wantM, h])
  | some x => rw [bindP_some]; exact wd_some (m := x.1) (hs' := hs) (os := [(b0 + j, x.2)]) (by simp only [evD1, wantM, h])
theorem Wd_ma {js : List Nat} {b0 : Nat} {d : Option Ky} {o : Iop} {l : List (IOper × DK)} {r : List MH} {pd : List (Nat × MO)} {K : Fr → List MH → List (Nat × MO) → Prop} : Wd fns b0 ((⟨d, none, o⟩, .ma js) :: l) f (M :: r) pd K = @bindP _ (pickL pd b0 js) ⟨fun as1 => @bindP _ (o.ev (callA fns) f (adoptM as1 M)) ⟨fun x => Wd fns b0 l (setD f d x.1) (x.2 :: M :: r) pd K⟩⟩ := by
  cases hb : pickL pd b0 js with
  | none => rw [bindP_none]; exact wd_none (by simp only [evD1, wantM, hb])
  | some as1 =>
    rw [bindP_some]
    simp only
    cases h : o.ev (callA fns) f (adoptM as1 M) with
    | none => rw [bindP_none]; exact wd_none (by simp only [evD1, wantM, hb, h])
    | some x => rw [bindP_some]; exact (wd_some (m := x.1) (hs' := x.2 :: M :: r) (os := []) (by simp only [evD1, wantM, hb, h])).trans wd_end
theorem evD1_go {b0 : Nat} {d : Option Ky} {p : Ky} {w : Bool} {o : Iop} {q : DK} {hs : List MH} {pd : List (Nat × MO)} (h : wantM f (some (p, w)) = some true) : evD1 (callA fns) b0 f hs pd ⟨d, some (p, w), o⟩ q = evD1 (callA fns) b0 f hs pd ⟨d, none, o⟩ q := by
  unfold evD1
  simp only [h]
  rfl
theorem Wd_go {b0 : Nat} {d : Option Ky} {p : Ky} {w : Bool} {o : Iop} {q : DK} {l : List (IOper × DK)} {hs : List MH} {pd : List (Nat × MO)} {K : Fr → List MH → List (Nat × MO) → Prop} (h : wantM f (some (p, w)) = some true) : Wd fns b0 ((⟨d, some (p, w), o⟩, q) :: l) f hs pd K = Wd fns b0 ((⟨d, none, o⟩, q) :: l) f hs pd K := by
  rw [Wd_cons, Wd_cons, evD1_go h]
theorem Wd_stay {b0 : Nat} {d : Option Ky} {p : Ky} {w : Bool} {o : Iop} {q : DK} {l : List (IOper × DK)} {hs : List MH} {pd : List (Nat × MO)} {K : Fr → List MH → List (Nat × MO) → Prop} (hq : q.chain = false) (hq2 : ∀ j, q ≠ .fl j) (h : wantM f (some (p, w)) = some false) : Wd fns b0 ((⟨d, some (p, w), o⟩, q) :: l) f hs pd K = Wd fns b0 l (setD f d (.tp [])) hs pd K := by
  refine (wd_some (m := .tp []) (hs' := hs) (os := []) ?_).trans wd_end
  unfold evD1
  simp only [h]
  cases q <;> first | rfl | (cases hq; done) | exact absurd rfl (hq2 _)
theorem Wd_stayC {b0 : Nat} {d : Option Ky} {p : Ky} {w : Bool} {o : Iop} {q : DK} {l : List (IOper × DK)} {r : List MH} {pd : List (Nat × MO)} {K : Fr → List MH → List (Nat × MO) → Prop} (hq : q.chain = true) (hq2 : ∀ js, q ≠ .ma js) (h : wantM f (some (p, w)) = some false) : Wd fns b0 ((⟨d, some (p, w), o⟩, q) :: l) f (M :: r) pd K = Wd fns b0 l (setD f d (.tp [])) (M :: M :: r) pd K := by
  refine (wd_some (m := .tp []) (hs' := M :: M :: r) (os := []) ?_).trans wd_end
  unfold evD1
  simp only [h]
  cases q <;> first | rfl | (cases hq; done) | exact absurd rfl (hq2 _)
theorem wd_gd {p : Ky} {v : MV} {w : Bool} {A B C : Prop} (hv : v = X.ev f (.t p)) (h1 : wantM f (some (p, w)) = some true → C = A) (h2 : wantM f (some (p, w)) = some false → C = B) (h3 : wantM f (some (p, w)) = none → C = False) : C = @gdP v w ⟨A⟩ ⟨B⟩ := by
  have hw := want_ev (f := f) p w
  rw [← hv] at hw
  unfold gdP
  clear hv
  cases v <;> simp only at hw ⊢ <;> first | exact h3 hw | skip
  · rename_i b
    cases hb : b == w with
    | true => rw [hb] at hw; exact h1 hw
    | false => rw [hb] at hw; exact h2 hw
  · exact h2 hw
theorem evD1_stuck {b0 : Nat} {d : Option Ky} {p : Ky} {w : Bool} {o : Iop} {q : DK} {hs : List MH} {pd : List (Nat × MO)} (h : wantM f (some (p, w)) = none) : evD1 (callA fns) b0 f hs pd ⟨d, some (p, w), o⟩ q = none := by
  unfold evD1
  simp only [h]
theorem Wd_gpu {b0 : Nat} {d : Option Ky} {p : Ky} {w : Bool} {o : Iop} {l : List (IOper × DK)} {hs : List MH} {pd : List (Nat × MO)} {K : Fr → List MH → List (Nat × MO) → Prop} : Wd fns b0 ((⟨d, some (p, w), o⟩, .pu) :: l) f hs pd K = @gdP (X.ev f (.t p)) w ⟨Wd fns b0 ((⟨d, none, o⟩, .pu) :: l) f hs pd K⟩ ⟨Wd fns b0 l (setD f d (.tp [])) hs pd K⟩ :=
  wd_gd rfl Wd_go (Wd_stay rfl fun j e => by cases e) fun h => wd_none (evD1_stuck h)
theorem Wd_grd {b b0 : Nat} {d : Option Ky} {p : Ky} {w : Bool} {o : Iop} {l : List (IOper × DK)} {hs : List MH} {pd : List (Nat × MO)} {K : Fr → List MH → List (Nat × MO) → Prop} : Wd fns b0 ((⟨d, some (p, w), o⟩, .rd b) :: l) f hs pd K = @gdP (X.ev f (.t p)) w ⟨Wd fns b0 ((⟨d, none, o⟩, .rd b) :: l) f hs pd K⟩ ⟨Wd fns b0 l (setD f d (.tp [])) hs pd K⟩ :=
  wd_gd rfl Wd_go (Wd_stay rfl fun j e => by cases e) fun h => wd_none (evD1_stuck h)
theorem Wd_gad {b0 : Nat} {d : Option Ky} {p : Ky} {w : Bool} {o : Iop} {l : List (IOper × DK)} {r : List MH} {pd : List (Nat × MO)} {K : Fr → List MH → List (Nat × MO) → Prop} : Wd fns b0 ((⟨d, some (p, w), o⟩, .ad) :: l) f (M :: r) pd K = @gdP (X.ev f (.t p)) w ⟨Wd fns b0 ((⟨d, none, o⟩, .ad) :: l) f (M :: r) pd K⟩ ⟨Wd fns b0 l (setD f d (.tp [])) (M :: M :: r) pd K⟩ :=
  wd_gd rfl Wd_go (Wd_stayC rfl fun j e => by cases e) fun h => wd_none (evD1_stuck h)
theorem Wd_gmd {b0 : Nat} {d : Option Ky} {p : Ky} {w : Bool} {o : Iop} {l : List (IOper × DK)} {r : List MH} {pd : List (Nat × MO)} {K : Fr → List MH → List (Nat × MO) → Prop} : Wd fns b0 ((⟨d, some (p, w), o⟩, .md) :: l) f (M :: r) pd K = @gdP (X.ev f (.t p)) w ⟨Wd fns b0 ((⟨d, none, o⟩, .md) :: l) f (M :: r) pd K⟩ ⟨Wd fns b0 l (setD f d (.tp [])) (M :: M :: r) pd K⟩ :=
  wd_gd rfl Wd_go (Wd_stayC rfl fun j e => by cases e) fun h => wd_none (evD1_stuck h)
def dregK (fns : Nat → Option IFn) (l : List (IOper × DK)) (lB : List IOper) (xs : List (Nat × Nat)) (n : Nat) (Q : Post) : Fr → List MH → List (Nat × MO) → Prop := fun f hs os => match hs with
  | M1 :: t => apartL xs l n f (M1 :: t) = true ∧ Wl fns lB f (adoptM (lateL l n os) M1) fun f' M' => Q .norm f' M'
  | [] => False
theorem apartL_nil (l : List (IOper × DK)) (n : Nat) (f : Fr) (hs : List MH) : apartL [] l n f hs = true := rfl
theorem lateL_nil (l : List (IOper × DK)) (n : Nat) : lateL l n [] = [] := rfl
theorem adopt_nil (M : MH) : adoptM [] M = M := rfl
theorem dregK_cons {l : List (IOper × DK)} {lB : List IOper} {xs : List (Nat × Nat)} {n : Nat} {M1 : MH} {t : List MH} {os : List (Nat × MO)} : dregK fns l lB xs n Q f (M1 :: t) os = (apartL xs l n f (M1 :: t) = true ∧ Wl fns lB f (adoptM (lateL l n os) M1) fun f' M' => Q .norm f' M') := rfl
theorem room0 : M.room 0 = M := rfl
theorem room_n (r : Nat) : (M.room r).n = M.n + r := rfl
theorem room_get (r id : Nat) : (M.room r).get id = M.get id := rfl
theorem room_lo (r : Nat) : (M.room r).lo = M.lo := rfl
theorem ev_c (m : MV) : X.ev f (.c m) = m := rfl
theorem ev_set (p q : Ky) (m : MV) : X.ev (T.set p (some m) f) (.t q) = if p = q then m else X.ev f (.t q) := by
  show (match (T.set p (some m) f).get q with
    | some v => v
    | none => MV.u) = _
  rw [T.get_set]
  by_cases h : p = q
  · rw [if_pos h, if_pos h]
  · rw [if_neg h, if_neg h]; rfl
theorem setD_some (p : Ky) (m : MV) : setD f (some p) m = T.set p (some m) f := rfl
theorem setD_none (m : MV) : setD f none m = f := rfl
theorem retQ_ret {fn : IFn} {K : MV → MH → Prop} : retQ fn K .ret f M = @bindP _ (resL f M fn.res) ⟨fun l => K (packM l) M⟩ := rfl
theorem retQ_norm {fn : IFn} {K : MV → MH → Prop} : retQ fn K .norm f M = @bindP _ (resL f M fn.res) ⟨fun l => K (packM l) M⟩ := rfl
theorem res_set (p q : Ky) (m : MV) : IRes.ev (T.set p (some m) f) M (.tmp q) = if p = q then some m else IRes.ev f M (.tmp q) := T.get_set p (some m) f q
theorem thenQ_ret {b : IC} : thenQ fns b Q .ret f M = Q .ret f M := rfl
theorem thenQ_exit {b : IC} (i : Nat) : thenQ fns b Q (.exit i) f M = Q (.exit i) f M := rfl
theorem blockQ_norm (id : Nat) : blockQ id Q .norm f M = Q .norm f M := rfl
theorem blockQ_ret (id : Nat) : blockQ id Q .ret f M = Q .ret f M := rfl
theorem blockQ_exit (id i : Nat) : blockQ id Q (.exit i) f M = if i = id then Q .norm f M else Q (.exit i) f M := by
  unfold blockQ
  simp only
  by_cases h : i = id
  · rw [if_pos h, h, beq_self_eq_true, cond_true]
  · rw [if_neg h, show (i == id) = false from by simpa using h, cond_false]
theorem push_new (o : MO) : (M.push o).get M.n = some o := by rw [MH.get_push, if_pos rfl]
theorem push_old {o : MO} {j : Nat} (h : j < M.n) : (M.push o).get j = M.get j := by rw [MH.get_push, if_neg (by omega)]
theorem push_n (o : MO) : (M.push o).n = M.n + 1 := rfl
theorem push_lo (o : MO) : (M.push o).lo = M.lo := rfl
theorem set_n (id : Nat) (o : Option MO) : (M.set id o).n = M.n := rfl
theorem set_lo (id : Nat) (o : Option MO) : (M.set id o).lo = M.lo := rfl
theorem set_same (id : Nat) (o : Option MO) : (M.set id o).get id = o := by rw [MH.get_set, if_pos rfl]
theorem set_ne {id j : Nat} {o : Option MO} (h : j ≠ id) : (M.set id o).get j = M.get j := by rw [MH.get_set, if_neg (by omega)]
theorem lift_n : M.lift.n = M.n := rfl
theorem lift_lo : M.lift.lo = M.n := rfl
theorem lift_get (id : Nat) : M.lift.get id = M.get id := rfl
theorem down_n (lo : Nat) : (M.down lo).n = M.n := rfl
theorem down_lo (lo : Nat) : (M.down lo).lo = lo := rfl
theorem down_get (lo id : Nat) : (M.down lo).get id = M.get id := rfl
theorem ble_t' {a b : Nat} (h : a ≤ b) : Nat.ble a b = true := Nat.ble_eq_true_of_le h
theorem blt_t {a b : Nat} (h : a < b) : Nat.blt a b = true := Nat.ble_eq_true_of_le h
theorem wrap_in {z : Int} (h : -9223372036854775808 ≤ z) (h' : z < 9223372036854775808) : wrapF .i64 z = z := by
  rw [wrapF_eq]
  have e64 : (2 : Int) ^ 64 = 18446744073709551616 := by decide
  have e63 : (2 : Int) ^ 63 = 9223372036854775808 := by decide
  simp only [IntKind.wrap, IntKind.bits, IntKind.signed, e64, e63, Bool.true_and, show (64 : Nat) - 1 = 63 from rfl, decide_eq_true_eq, ge_iff_le]
  split <;> omega
end Go.Proofs.YtpdcahaggacacaaDoor.Ev
set_option linter.unusedSimpArgs false
set_option linter.unusedVariables false
namespace Go.Proofs.YtpdcahaggacacaaDoor.Ev
open Go
structure Ext (M M' : MH) : Prop where
  n : M.n ≤ M'.n
  lo : M'.lo = M.lo
  old : ∀ id, id < M.n → M'.get id = M.get id
theorem Ext.refl (M : MH) : Ext M M := ⟨Nat.le_refl _, rfl, fun _ _ => rfl⟩
theorem Ext.trans {a b c : MH} (h : Ext a b) (k : Ext b c) : Ext a c := ⟨Nat.le_trans h.n k.n, k.lo.trans h.lo, fun id hid => (k.old id (Nat.lt_of_lt_of_le hid h.n)).trans (h.old id hid)⟩
theorem Ext.push (M : MH) (o : MO) : Ext M (M.push o) := ⟨Nat.le_succ _, rfl, fun id hid => push_old hid⟩
theorem Ext.room (M : MH) (r : Nat) : Ext M (M.room r) := ⟨Nat.le_add_right _ _, rfl, fun id hid => rfl⟩
theorem Ext.set {M0 M : MH} (h : Ext M0 M) {id : Nat} (o : Option MO) (hid : M0.n ≤ id) : Ext M0 (M.set id o) := ⟨h.n, h.lo, fun j hj => by rw [set_ne (by omega)]; exact h.old j hj⟩
def At (c : T MV) (off : Nat) (l : List MV) : Prop := ∀ j x, l[j]? = some x → cget c (off + j) = some x
theorem At.nil (c : T MV) (off : Nat) : At c off [] := fun j x h => by simp at h
theorem At.getN {c : T MV} : ∀ {l : List MV} {off : Nat}, At c off l → getN c l.length off = some l
  | [], off, h => rfl
  | x :: l, off, h => by
    rw [List.length_cons, getN_succ, show cget c off = some x from h 0 x rfl]
    simp only
    rw [At.getN (l := l) (off := off + 1) fun j y hj => by rw [show off + 1 + j = off + (j + 1) from by omega]; exact h (j + 1) y (by simpa using hj)]
theorem At.left {c : T MV} {off : Nat} {a b : List MV} (h : At c off (a ++ b)) : At c off a := fun j x hj => h j x (by rw [List.getElem?_append_left (List.getElem?_eq_some_iff.1 hj).1]; exact hj)
theorem At.right {c : T MV} {off : Nat} {a b : List MV} (h : At c off (a ++ b)) : At c (off + a.length) b := fun j x hj => by
  rw [Nat.add_assoc]
  exact h _ x (by rw [List.getElem?_append_right (by omega), show a.length + j - a.length = j from by omega]; exact hj)
theorem At.one {c : T MV} {off : Nat} {l : List MV} (h : At c off l) {j : Nat} {x : MV} (hj : l[j]? = some x) : cget c (off + j) = some x := h j x hj
theorem at_ofL (l : List MV) : At (ofL l 0) 0 l := fun j x hj => by rw [cget_ofL, if_pos (Nat.zero_le _), Nat.zero_add, Nat.sub_zero, hj]
theorem At.app {c : T MV} {olds news : List MV} (h : At c 0 olds) : At (appC c olds.length 0 olds news) 0 (olds ++ news) := fun j x hj => by rw [Nat.zero_add, appC_get h.getN, hj]
def Sized (sz : Nat) (es : List (List MV)) : Prop := ∀ e ∈ es, e.length = sz
theorem Sized.flat {sz : Nat} : ∀ {es : List (List MV)}, Sized sz es → es.flatten.length = es.length * sz
  | [], h => by simp
  | e :: es, h => by
    rw [List.flatten_cons, List.length_append, h e List.mem_cons_self, Sized.flat fun x hx => h x (List.mem_cons_of_mem _ hx), List.length_cons, Nat.succ_mul, Nat.add_comm]
theorem At.elem {c : T MV} {sz : Nat} : ∀ {es : List (List MV)} {off i : Nat} {e : List MV}, Sized sz es → At c off es.flatten → es[i]? = some e → At c (off + i * sz) e
  | [], off, i, e, hs, h, hi => by simp at hi
  | x :: es, off, 0, e, hs, h, hi => by
    simp only [List.getElem?_cons_zero, Option.some.injEq] at hi
    subst hi
    rw [Nat.zero_mul, Nat.add_zero]
    rw [List.flatten_cons] at h
    exact h.left
  | x :: es, off, i + 1, e, hs, h, hi => by
    rw [List.flatten_cons] at h
    have h1 := h.right
    rw [hs x List.mem_cons_self] at h1
    rw [Nat.succ_mul, show off + (i * sz + sz) = off + sz + i * sz from by omega]
    exact At.elem (fun y hy => hs y (List.mem_cons_of_mem _ hy)) h1 (by simpa using hi)
def RowAt (M : MH) (sz : Nat) (v : MV) (es : List (List MV)) : Prop := Sized sz es ∧ ((v = .nils ∧ es = []) ∨ ∃ id off e ro s c, v = .sl id off es.length e ∧ M.get id = some (.cs ro s c) ∧ id < M.n ∧ At c off es.flatten)
theorem RowAt.ext {M M' : MH} {sz : Nat} {v : MV} {es : List (List MV)} (h : RowAt M sz v es) (k : Ext M M') : RowAt M' sz v es := by
  obtain ⟨hs, h | ⟨id, off, e, ro, s, c, h1, h2, h3, h4⟩⟩ := h
  · exact ⟨hs, .inl h⟩
  · exact ⟨hs, .inr ⟨id, off, e, ro, s, c, h1, (k.old id h3).trans h2, Nat.lt_of_lt_of_le h3 k.n, h4⟩⟩
def OwnRow (lo : Nat) (M : MH) (sz : Nat) (v : MV) (es : List (List MV)) : Prop := Sized sz es ∧ ((v = .nils ∧ es = []) ∨ ∃ id c, v = .sl id 0 es.length 0 ∧ M.get id = some (.cs false sz c) ∧ lo ≤ id ∧ id < M.n ∧ At c 0 es.flatten)
theorem OwnRow.row {lo : Nat} {M : MH} {sz : Nat} {v : MV} {es : List (List MV)} (h : OwnRow lo M sz v es) : RowAt M sz v es := by
  obtain ⟨hs, h | ⟨id, c, h1, h2, h3, h4, h5⟩⟩ := h
  · exact ⟨hs, .inl h⟩
  · exact ⟨hs, .inr ⟨id, 0, 0, false, sz, c, h1, h2, h4, h5⟩⟩
theorem OwnRow.nil (lo : Nat) (M : MH) (sz : Nat) : OwnRow lo M sz .nils [] := ⟨fun e h => (by cases h), .inl ⟨rfl, rfl⟩⟩
theorem OwnRow.ext {lo : Nat} {M M' : MH} {sz : Nat} {v : MV} {es : List (List MV)} (h : OwnRow lo M sz v es) (k : Ext M M') : OwnRow lo M' sz v es := by
  obtain ⟨hs, h | ⟨id, c, h1, h2, h3, h4, h5⟩⟩ := h
  · exact ⟨hs, .inl h⟩
  · exact ⟨hs, .inr ⟨id, c, h1, (k.old id h4).trans h2, h3, Nat.lt_of_lt_of_le h4 k.n, h5⟩⟩
theorem OwnRow.le {lo lo' : Nat} {M : MH} {sz : Nat} {v : MV} {es : List (List MV)} (h : OwnRow lo M sz v es) (k : lo' ≤ lo) : OwnRow lo' M sz v es := by
  obtain ⟨hs, h | ⟨id, c, h1, h2, h3, h4, h5⟩⟩ := h
  · exact ⟨hs, .inl h⟩
  · exact ⟨hs, .inr ⟨id, c, h1, h2, by omega, h4, h5⟩⟩
theorem RowAt.len {M : MH} {sz : Nat} {v : MV} {es : List (List MV)} (h : RowAt M sz v es) (call : CallM) (f : Fr) (x : X) (hx : x.ev f = v) : Iop.ev call f M (.len x) = some (.i .i64 (es.length : Int), M) := by
  obtain ⟨hs, ⟨rfl, rfl⟩ | ⟨id, off, e, ro, s, c, rfl, _⟩⟩ := h
  · simp only [Iop.ev, hx, List.length_nil]; rfl
  · simp only [Iop.ev, hx]
def ElAt (M : MH) (v : MV) (e : List MV) : Prop := ∃ id off ro s c, v = .p id off ∧ M.get id = some (.cs ro s c) ∧ id < M.n ∧ At c off e
theorem ElAt.ext {M M' : MH} {v : MV} {e : List MV} (h : ElAt M v e) (k : Ext M M') : ElAt M' v e := by
  obtain ⟨id, off, ro, s, c, h1, h2, h3, h4⟩ := h
  exact ⟨id, off, ro, s, c, h1, (k.old id h3).trans h2, Nat.lt_of_lt_of_le h3 k.n, h4⟩
theorem ElAt.ldN {M : MH} {v : MV} {e : List MV} (h : ElAt M v e) (call : CallM) (f : Fr) (x : X) (hx : x.ev f = v) {n : Nat} (hn : e.length = n) : Iop.ev call f M (.ldN n x) = some (.ag e, M) := by
  obtain ⟨id, off, ro, s, c, rfl, h2, h3, h4⟩ := h
  subst hn
  simp only [Iop.ev, hx, h2, h4.getN]
theorem ElAt.fa {M : MH} {v : MV} {e : List MV} (h : ElAt M v e) (call : CallM) (f : Fr) (x : X) (hx : x.ev f = v) (o : Nat) : ∃ p, Iop.ev call f M (.fa o x) = some (p, M) ∧ ElAt M p (e.drop o) := by
  obtain ⟨id, off, ro, s, c, rfl, h2, h3, h4⟩ := h
  refine ⟨.p id (off + o), by simp only [Iop.ev, hx], id, _, ro, s, c, rfl, h2, h3, fun j y hj => ?_⟩
  rw [Nat.add_assoc]
  exact h4 _ y (by rw [List.getElem?_drop] at hj; exact hj)
theorem ElAt.ld1 {M : MH} {v : MV} {a : MV} {e : List MV} (h : ElAt M v (a :: e)) (call : CallM) (f : Fr) (x : X) (hx : x.ev f = v) : Iop.ev call f M (.ld1 x) = some (a, M) := by
  obtain ⟨id, off, ro, s, c, rfl, h2, h3, h4⟩ := h
  have := h4 0 a rfl
  rw [Nat.add_zero] at this
  simp only [Iop.ev, hx, h2, this]
theorem allOne_append (a b : List MV) : allOne (a ++ b) = (allOne a && allOne b) := by unfold allOne; rw [List.all_append]
theorem src_row {M : MH} {sz : Nat} {w : MV} {ns : List (List MV)} (h : RowAt M sz w ns) : srcM M sz w = some (ns.length, ns.flatten) := by
  obtain ⟨hs, ⟨rfl, rfl⟩ | ⟨id, off, e, ro, s, c, rfl, h2, h3, h4⟩⟩ := h
  · rfl
  · cases ns with
    | nil => rfl
    | cons x ns =>
      have hf := hs.flat
      unfold srcM
      simp only [List.length_cons, h2]
      rw [← List.length_cons (a := x), ← hf, h4.getN]
theorem all_flat : ∀ {ns : List (List MV)}, (∀ e ∈ ns, allOne e = true) → allOne ns.flatten = true
  | [], _ => rfl
  | e :: ns, h => by
    rw [List.flatten_cons, allOne_append, h e List.mem_cons_self, all_flat fun x hx => h x (List.mem_cons_of_mem _ hx)]
    rfl
theorem Sized.append {sz : Nat} {a b : List (List MV)} (h : Sized sz a) (k : Sized sz b) : Sized sz (a ++ b) := fun x hx => (List.mem_append.1 hx).elim (h x) (k x)
end Go.Proofs.YtpdcahaggacacaaDoor.Ev
set_option linter.unusedSimpArgs false
set_option linter.unusedVariables false
namespace Go.Proofs.YtpdcahaggacacaaDoor.Ev
open Go
variable {c : CallM} {f : Fr} {M : MH}
def o1 (r : Option MV) (M : MH) : Option (MV × MH) := match r with
  | some m => some (m, M)
  | none => none
theorem o1_some (m : MV) (M : MH) : o1 (some m) M = some (m, M) := rfl
def binV (op : BinOp) (x y : MV) : Option MV := match x, y with
  | .i k a, .i k' b => Ev.binI op k a k' b
  | _, _ => none
def lenV (x : MV) : Option MV := match x with
  | .nils => some (.i .i64 0)
  | .sl _ _ n _ => some (.i .i64 n)
  | _ => none
def ixV (s : Nat) (x i : MV) : Option MV := match x, i with
  | .sl id off ln _, .i _ (.ofNat j) => bif Nat.blt j ln then some (.p id (off + j * s)) else none
  | _, _ => none
def ixAV (n s : Nat) (x i : MV) : Option MV := match x, i with
  | .p id off, .i _ (.ofNat j) => bif Nat.blt j n then some (.p id (off + j * s)) else none
  | _, _ => none
noncomputable def ld1V (M : MH) (x : MV) : Option MV := match x with
  | .p id off => match M.get id with
    | some (.cs _ _ c) => cget c off
    | _ => none
  | _ => none
noncomputable def ldNV (M : MH) (n : Nat) (x : MV) : Option MV := match x with
  | .p id off => match M.get id with
    | some (.cs _ _ c) => match getN c n off with
      | some l => some (.ag l)
      | none => none
    | _ => none
  | _ => none
def faV (o : Nat) (x : MV) : Option MV := match x with
  | .p id off => some (.p id (off + o))
  | _ => none
def nckV (x : MV) : Option MV := match x with
  | .p id off => some (.p id off)
  | _ => none
def fld1V (o : Nat) (x : MV) : Option MV := match x with
  | .ag l => l[o]?
  | _ => none
def fldNV (o n : Nat) (x : MV) : Option MV := match x with
  | .ag l => some (.ag ((l.drop o).take n))
  | _ => none
def extV (i : Nat) (x : MV) : Option MV := match x with
  | .tp l => l[i]?
  | _ => none
def binBV (op : BinOp) (x y : MV) : Option MV := match x, y with
  | .b a, .b b => eqM op (a == b)
  | _, _ => none
def binNV (n : NilKind) (op : BinOp) (x y : MV) : Option MV := match nilR n x y with
  | some r => eqM op r
  | none => none
def pickV (c a b : MV) : Option MV := match c with
  | .b true => some a
  | .b false => some b
  | _ => none
def mnV (x y : MV) : Option MV := match x, y with
  | .i k a, .i _ b => some (.i k (bif decide (b < a) then b else a))
  | _, _ => none
def mxV (x y : MV) : Option MV := match x, y with
  | .i k a, .i _ b => some (.i k (bif decide (a < b) then b else a))
  | _, _ => none
def cvIV (k : IntKind) (x : MV) : Option MV := match x with
  | .i _ n => some (.i k (wrapF k n))
  | _ => none
noncomputable def stV (M : MH) (n : Nat) (x y : MV) : Option (MV × MH) := match x with
  | .p id off => match M.get id with
    | some (.cs false sz c) => bif y.cells.length == n && !isU y && allOne y.cells && Nat.ble M.lo id && hasB c n off then some (.u, M.set id (some (.cs false sz (setN y.cells off c)))) else none
    | _ => none
  | _ => none
noncomputable def pushV (M : MH) (m : MV) (o : MO) : Option (MV × MH) := bif Nat.ble M.lo M.n then some (m, M.push o) else none
theorem ev_mov (x : X) : Iop.ev c f M (.mov x) = some (x.ev f, M) := rfl
theorem ev_pick (a b d : X) : Iop.ev c f M (.pick a b d) = o1 (pickV (a.ev f) (b.ev f) (d.ev f)) M := by
  simp only [Iop.ev, pickV]
  cases a.ev f <;> try rfl
  rename_i t; cases t <;> rfl
theorem ev_new (l : List MV) : Iop.ev c f M (.new l) = pushV M (.p M.n 0) (.cs false l.length (ofL l 0)) := rfl
theorem ev_box (x : X) : Iop.ev c f M (.box x) = if isU (x.ev f) = true then none else pushV M (.p M.n 0) (.cs false (x.ev f).cells.length (ofL (x.ev f).cells 0)) := by
  simp only [Iop.ev, pushV]
  cases isU (x.ev f) <;> simp
theorem ev_build (zs : List MV) (ps : List (Nat × Nat × X)) : Iop.ev c f M (.build zs ps) = o1 ((fillM (ps.map fun x => (x.1, x.2.1, x.2.2.ev f)) zs).map .ag) M := by
  simp only [Iop.ev]
  cases fillM (ps.map fun x => (x.1, x.2.1, x.2.2.ev f)) zs <;> rfl
theorem ev_bsl (sz n : Nat) (zs : List MV) (ps : List (Nat × Nat × X)) : Iop.ev c f M (.bsl sz n zs ps) = bif Nat.ble M.lo M.n then (match fillM (ps.map fun x => (x.1, x.2.1, x.2.2.ev f)) (zrow zs n) with
    | some l => some (.sl M.n 0 n 0, M.push (.cs false sz (ofL l 0)))
    | none => none) else none := rfl
theorem ev_ld1 (x : X) : Iop.ev c f M (.ld1 x) = o1 (ld1V M (x.ev f)) M := by
  simp only [Iop.ev, ld1V]
  cases x.ev f <;> try rfl
  rename_i id off
  simp only
  cases M.get id with
  | none => rfl
  | some o =>
    cases o with
    | mp _ _ => rfl
    | cs r s c => simp only; cases cget c off <;> rfl
theorem ev_ldN (n : Nat) (x : X) : Iop.ev c f M (.ldN n x) = o1 (ldNV M n (x.ev f)) M := by
  simp only [Iop.ev, ldNV]
  cases x.ev f <;> try rfl
  rename_i id off
  simp only
  cases M.get id with
  | none => rfl
  | some o =>
    cases o with
    | mp _ _ => rfl
    | cs r s c => simp only; cases getN c n off <;> rfl
theorem ev_st (n : Nat) (x y : X) : Iop.ev c f M (.st n x y) = stV M n (x.ev f) (y.ev f) := rfl
theorem ev_nck (x : X) : Iop.ev c f M (.nck x) = o1 (nckV (x.ev f)) M := by
  simp only [Iop.ev, nckV]; cases x.ev f <;> rfl
theorem ev_binI (op : BinOp) (x y : X) : Iop.ev c f M (.binI op x y) = o1 (binV op (x.ev f) (y.ev f)) M := by
  simp only [Iop.ev, binV]
  cases x.ev f <;> try rfl
  cases y.ev f <;> try rfl
theorem ev_binB (op : BinOp) (x y : X) : Iop.ev c f M (.binB op x y) = o1 (binBV op (x.ev f) (y.ev f)) M := by
  simp only [Iop.ev, binBV]
  cases x.ev f <;> try rfl
  cases y.ev f <;> try rfl
theorem ev_binN (n : NilKind) (op : BinOp) (x y : X) : Iop.ev c f M (.binN n op x y) = o1 (binNV n op (x.ev f) (y.ev f)) M := by
  simp only [Iop.ev, binNV]
  cases nilR n (x.ev f) (y.ev f) with
  | none => rfl
  | some r => simp only; cases eqM op r <;> rfl
theorem ev_un (op : UnOp) (x : X) : Iop.ev c f M (.un op x) = o1 (unM op (x.ev f)) M := by
  simp only [Iop.ev]; cases unM op (x.ev f) <;> rfl
theorem ev_cvI (k : IntKind) (x : X) : Iop.ev c f M (.cvI k x) = o1 (cvIV k (x.ev f)) M := by
  simp only [Iop.ev, cvIV]; cases x.ev f <;> rfl
theorem ev_fld1 (o : Nat) (x : X) : Iop.ev c f M (.fld1 o x) = o1 (fld1V o (x.ev f)) M := by
  simp only [Iop.ev, fld1V]
  cases x.ev f <;> try rfl
theorem ev_fldN (o n : Nat) (x : X) : Iop.ev c f M (.fldN o n x) = o1 (fldNV o n (x.ev f)) M := by
  simp only [Iop.ev, fldNV]; cases x.ev f <;> rfl
theorem ev_fa (o : Nat) (x : X) : Iop.ev c f M (.fa o x) = o1 (faV o (x.ev f)) M := by
  simp only [Iop.ev, faV]; cases x.ev f <;> rfl
theorem ev_ixA (n s : Nat) (x i : X) : Iop.ev c f M (.ixA n s x i) = o1 (ixAV n s (x.ev f) (i.ev f)) M := by
  simp only [Iop.ev, ixAV]
  cases x.ev f <;> try rfl
  cases i.ev f <;> try rfl
  rename_i id off k z
  cases z with
  | negSucc j => rfl
  | ofNat j => simp only; cases Nat.blt j n <;> rfl
theorem ev_ixS (s : Nat) (x i : X) : Iop.ev c f M (.ixS s x i) = o1 (ixV s (x.ev f) (i.ev f)) M := by
  simp only [Iop.ev, ixV]
  cases x.ev f <;> try rfl
  cases i.ev f <;> try rfl
  rename_i id off ln e k z
  cases z with
  | negSucc j => rfl
  | ofNat j => simp only; cases Nat.blt j ln <;> rfl
theorem ev_ext (x : X) (i : Nat) : Iop.ev c f M (.ext x i) = o1 (extV i (x.ev f)) M := by
  simp only [Iop.ev, extV]
  cases x.ev f <;> try rfl
theorem ev_mkm : Iop.ev c f M .mkm = pushV M (.m M.n) (.mp [] 0) := rfl
theorem ev_cut (sz : Nat) (x : X) (lo hi : Option X) : Iop.ev c f M (.cut sz x lo hi) = o1 (cutM sz (x.ev f) (lo.map (X.ev f)) (hi.map (X.ev f))) M := by
  simp only [Iop.ev]; cases cutM sz (x.ev f) (lo.map (X.ev f)) (hi.map (X.ev f)) <;> rfl
theorem ev_app (sz bytes : Nat) (x y : X) : Iop.ev c f M (.app sz bytes x y) = appM M sz bytes (x.ev f) (y.ev f) := rfl
theorem ev_len (x : X) : Iop.ev c f M (.len x) = o1 (lenV (x.ev f)) M := by
  simp only [Iop.ev, lenV]; cases x.ev f <;> rfl
theorem ev_mn (x y : X) : Iop.ev c f M (.mn x y) = o1 (mnV (x.ev f) (y.ev f)) M := by
  simp only [Iop.ev, mnV]
  cases x.ev f <;> try rfl
  cases y.ev f <;> rfl
theorem ev_mx (x y : X) : Iop.ev c f M (.mx x y) = o1 (mxV (x.ev f) (y.ev f)) M := by
  simp only [Iop.ev, mxV]
  cases x.ev f <;> try rfl
  cases y.ev f <;> rfl
theorem ev_call (g : Nat) (l : List X) : Iop.ev c f M (.call g l) = c g (l.map (X.ev f)) M := rfl
theorem ev_mkf (g : Fn) (a d : List X) : Iop.ev c f M (.mkf g a d) = some (.fn g (a.map (X.ev f)) (d.map (X.ev f)), M) := rfl
theorem ev_pu2 (g : PG) (x y : X) : Iop.ev c f M (.pu2 g x y) = o1 (puM g (x.ev f) (y.ev f)) M := by
  simp only [Iop.ev]; cases puM g (x.ev f) (y.ev f) <;> rfl
theorem ev_rdm (g : RG) (x y : X) : Iop.ev c f M (.rdm g x y) = o1 (rdF g M (x.ev f) (y.ev f)) M := by
  simp only [Iop.ev]; cases rdF g M (x.ev f) (y.ev f) <;> rfl
theorem bin_add (k : IntKind) (a b : Int) : binV .add (.i k a) (.i k b) = some (.i k (wrapF k (a + b))) := by cases k <;> rfl
theorem bin_sub (k : IntKind) (a b : Int) : binV .sub (.i k a) (.i k b) = some (.i k (wrapF k (a - b))) := by cases k <;> rfl
theorem bin_mul (k : IntKind) (a b : Int) : binV .mul (.i k a) (.i k b) = some (.i k (wrapF k (a * b))) := by cases k <;> rfl
theorem bin_eql (k : IntKind) (a b : Int) : binV .eql (.i k a) (.i k b) = some (.b (decide (a = b))) := by cases k <;> rfl
theorem bin_neq (k : IntKind) (a b : Int) : binV .neq (.i k a) (.i k b) = some (.b (decide (a ≠ b))) := by
  have : (a != b) = decide (a ≠ b) := by rw [Bool.eq_iff_iff]; simp
  cases k <;> exact congrArg (fun t => some (MV.b t)) this
theorem bin_lss (k : IntKind) (a b : Int) : binV .lss (.i k a) (.i k b) = some (.b (decide (a < b))) := by cases k <;> rfl
theorem bin_leq (k : IntKind) (a b : Int) : binV .leq (.i k a) (.i k b) = some (.b (decide (a ≤ b))) := by cases k <;> rfl
theorem bin_gtr (k : IntKind) (a b : Int) : binV .gtr (.i k a) (.i k b) = some (.b (decide (b < a))) := by cases k <;> rfl
theorem bin_geq (k : IntKind) (a b : Int) : binV .geq (.i k a) (.i k b) = some (.b (decide (b ≤ a))) := by cases k <;> rfl
theorem binB_eql (a b : Bool) : binBV .eql (.b a) (.b b) = some (.b (a == b)) := rfl
theorem binB_neq (a b : Bool) : binBV .neq (.b a) (.b b) = some (.b (!(a == b))) := rfl
theorem un_not (a : Bool) : unM .not (.b a) = some (.b (!a)) := rfl
theorem not_dec (p : Prop) [Decidable p] : (!decide p) = decide (¬ p) := by
  rw [Bool.eq_iff_iff]; simp
theorem pick_t (a b : MV) : pickV (.b true) a b = some a := rfl
theorem pick_f (a b : MV) : pickV (.b false) a b = some b := rfl
def isSl : MV → Bool
  | .nils => true
  | .sl _ _ _ _ => true
  | _ => false
def sid : MV → Nat
  | .sl id _ _ _ => id
  | _ => 0
def soff : MV → Nat
  | .sl _ o _ _ => o
  | _ => 0
def slen : MV → Nat
  | .sl _ _ n _ => n
  | _ => 0
theorem len_sl {v : MV} (h : isSl v = true) : lenV v = some (.i .i64 (slen v : Int)) := by cases v <;> first | rfl | cases h
theorem ix_sl {s : Nat} {v : MV} {k : IntKind} {i : Nat} (h : isSl v = true) (hi : i < slen v) : ixV s v (.i k (i : Int)) = some (.p (sid v) (soff v + i * s)) := by
  cases v <;> first | (simp [slen] at hi; done) | skip
  rename_i id off n e
  show (bif Nat.blt i n then some (MV.p id (off + i * s)) else none) = _
  rw [blt_t (show i < n from hi)]; rfl
theorem ixA_p {n s id off : Nat} {k : IntKind} {i : Nat} (hi : i < n) : ixAV n s (.p id off) (.i k (i : Int)) = some (.p id (off + i * s)) := by
  show (bif Nat.blt i n then some (MV.p id (off + i * s)) else none) = _
  rw [blt_t hi]; rfl
theorem fa_p (o id off : Nat) : faV o (.p id off) = some (.p id (off + o)) := rfl
theorem nck_p (id off : Nat) : nckV (.p id off) = some (.p id off) := rfl
theorem push_ok {m : MV} {o : MO} (h : M.lo ≤ M.n) : pushV M m o = some (m, M.push o) := by unfold pushV; rw [ble_t' h]; rfl
theorem hasB_of : ∀ {t : T MV} {n off : Nat}, (∀ j, j < n → (cget t (off + j)).isSome = true) → hasB t n off = true
  | t, 0, off, h => rfl
  | t, n + 1, off, h => by
    show (match cget t off with
      | some _ => hasB t n (off + 1)
      | none => false) = true
    have h0 := h 0 (by omega)
    rw [Nat.add_zero] at h0
    cases hc : cget t off with
    | none => rw [hc] at h0; cases h0
    | some v => exact hasB_of fun j hj => by rw [show off + 1 + j = off + (j + 1) from by omega]; exact h (j + 1) (by omega)
theorem At.has {t : T MV} {off : Nat} {l : List MV} (h : At t off l) : hasB t l.length off = true := hasB_of fun j hj => by rw [h j l[j] (List.getElem?_eq_getElem hj)]; rfl
noncomputable def stW (M : MH) (n id off : Nat) (y : MV) (o : Option MO) : Option (MV × MH) := match o with
  | some (.cs false sz c) => bif y.cells.length == n && !isU y && allOne y.cells && Nat.ble M.lo id && hasB c n off then some (.u, M.set id (some (.cs false sz (setN y.cells off c)))) else none
  | _ => none
theorem st_w (n id off : Nat) (y : MV) : stV M n (.p id off) y = stW M n id off y (M.get id) := rfl
theorem stW_cs {n id off sz : Nat} {t : T MV} {y : MV} (hlo : M.lo ≤ id) (hn : y.cells.length = n) (hu : isU y = false) (ho : allOne y.cells = true) (hb : hasB t n off = true) : stW M n id off y (some (.cs false sz t)) = some (.u, M.set id (some (.cs false sz (setN y.cells off t)))) := by
  simp only [stW, hn, beq_self_eq_true, hu, ho, ble_t' hlo, hb, Bool.not_false, Bool.and_true, cond_true]
noncomputable def ldW (off : Nat) (o : Option MO) : Option MV := match o with
  | some (.cs _ _ c) => cget c off
  | _ => none
noncomputable def ldNW (n off : Nat) (o : Option MO) : Option MV := match o with
  | some (.cs _ _ c) => (getN c n off).map .ag
  | _ => none
theorem ld1_w (id off : Nat) : ld1V M (.p id off) = ldW off (M.get id) := by
  simp only [ld1V, ldW]
theorem ldN_w (n id off : Nat) : ldNV M n (.p id off) = ldNW n off (M.get id) := by
  simp only [ldNV, ldNW]
  cases M.get id with
  | none => rfl
  | some o =>
    cases o with
    | mp _ _ => rfl
    | cs r s c => simp only; cases getN c n off <;> rfl
theorem ldW_cs (off : Nat) (r : Bool) (s : Nat) (t : T MV) : ldW off (some (.cs r s t)) = cget t off := rfl
theorem ldNW_cs (n off : Nat) (r : Bool) (s : Nat) (t : T MV) : ldNW n off (some (.cs r s t)) = (getN t n off).map .ag := rfl
theorem map_ag (l : List MV) : (some l).map MV.ag = some (.ag l) := rfl
theorem cells_ag (l : List MV) : (MV.ag l).cells = l := rfl
theorem at_setN (l : List MV) (off : Nat) (t : T MV) : At (setN l off t) off l := fun j x hj => by
  rw [cget_setN, if_pos ⟨by omega, by have := (List.getElem?_eq_some_iff.1 hj).1; omega⟩, show off + j - off = j from by omega, hj]
theorem getN_setN (l : List MV) (off : Nat) (t : T MV) : getN (setN l off t) l.length off = some l := (at_setN l off t).getN
theorem getN_setN' {l : List MV} {n off : Nat} {t : T MV} (h : l.length = n) : getN (setN l off t) n off = some l := by subst h; exact getN_setN l off t
theorem cells_i (k : IntKind) (z : Int) : (MV.i k z).cells = [.i k z] := rfl
theorem cells_b (t : Bool) : (MV.b t).cells = [.b t] := rfl
theorem cells_s (t : ByteArray) : (MV.s t).cells = [.s t] := rfl
theorem cells_p (a b : Nat) : (MV.p a b).cells = [.p a b] := rfl
theorem cells_nilp : (MV.nilp).cells = [.nilp] := rfl
theorem cells_nils : (MV.nils).cells = [.nils] := rfl
theorem cells_m (a : Nat) : (MV.m a).cells = [.m a] := rfl
theorem cells_sl (a b n d : Nat) : (MV.sl a b n d).cells = [.sl a b n d] := rfl
theorem cells_fn (g : Fn) (a b : List MV) : (MV.fn g a b).cells = [.fn g a b] := rfl
theorem one_i (k : IntKind) (z : Int) : (MV.i k z).one = true := rfl
theorem one_b (t : Bool) : (MV.b t).one = true := rfl
theorem one_s (t : ByteArray) : (MV.s t).one = true := rfl
theorem one_p (a b : Nat) : (MV.p a b).one = true := rfl
theorem one_nilp : (MV.nilp).one = true := rfl
theorem one_nils : (MV.nils).one = true := rfl
theorem one_m (a : Nat) : (MV.m a).one = true := rfl
theorem one_sl (a b n d : Nat) : (MV.sl a b n d).one = true := rfl
theorem one_fn (g : Fn) (a b : List MV) : (MV.fn g a b).one = true := rfl
theorem isU_i (k : IntKind) (z : Int) : isU (.i k z) = false := rfl
theorem isU_b (t : Bool) : isU (.b t) = false := rfl
theorem isU_s (t : ByteArray) : isU (.s t) = false := rfl
theorem isU_p (a b : Nat) : isU (.p a b) = false := rfl
theorem isU_nilp : isU .nilp = false := rfl
theorem isU_nils : isU .nils = false := rfl
theorem isU_m (a : Nat) : isU (.m a) = false := rfl
theorem isU_sl (a b n d : Nat) : isU (.sl a b n d) = false := rfl
theorem isU_ag (l : List MV) : isU (.ag l) = false := rfl
theorem isU_fn (g : Fn) (a b : List MV) : isU (.fn g a b) = false := rfl
theorem all_nil : allOne [] = true := rfl
theorem all_cons (x : MV) (l : List MV) : allOne (x :: l) = (x.one && allOne l) := rfl
theorem has_ofL (l : List MV) (n off : Nat) (h : off + n ≤ l.length) : hasB (ofL l 0) n off = true := hasB_of fun j hj => by
  rw [cget_ofL, if_pos (Nat.zero_le _), List.getElem?_eq_getElem (by omega)]; rfl
theorem hasB_iff {t : T MV} : ∀ {n off : Nat}, hasB t n off = true → ∀ j, j < n → (cget t (off + j)).isSome = true
  | 0, off, h, j, hj => by omega
  | n + 1, off, h, j, hj => by
    have h' : (match cget t off with
      | some _ => hasB t n (off + 1)
      | none => false) = true := h
    cases hc : cget t off with
    | none => rw [hc] at h'; cases h'
    | some v =>
      rw [hc] at h'
      cases j with
      | zero => rw [Nat.add_zero, hc]; rfl
      | succ j => rw [show off + (j + 1) = off + 1 + j from by omega]; exact hasB_iff h' j (by omega)
theorem has_setN {t : T MV} (l : List MV) (o n off : Nat) (h : hasB t n off = true) : hasB (setN l o t) n off = true := hasB_of fun j hj => by
  rw [cget_setN]
  split
  · rw [List.getElem?_eq_getElem (by omega)]; rfl
  · exact hasB_iff h j hj
def stOk (n : Nat) (y : MV) : Bool := (y.cells.length == n) && (!isU y && allOne y.cells)
theorem stW_ok {n id off sz : Nat} {t : T MV} {y : MV} (hlo : M.lo ≤ id) (hy : stOk n y = true) (hb : hasB t n off = true) : stW M n id off y (some (.cs false sz t)) = some (.u, M.set id (some (.cs false sz (setN y.cells off t)))) := by
  unfold stOk at hy
  simp only [Bool.and_eq_true, Bool.not_eq_true'] at hy
  exact stW_cs hlo (by simpa using hy.1) hy.2.1 hy.2.2 hb
noncomputable def bslW (M : MH) (sz n : Nat) (o : Option (List MV)) : Option (MV × MH) := match o with
  | some l => pushV M (.sl M.n 0 n 0) (.cs false sz (ofL l 0))
  | none => none
theorem bslW_some (sz n : Nat) (l : List MV) : bslW M sz n (some l) = pushV M (.sl M.n 0 n 0) (.cs false sz (ofL l 0)) := rfl
theorem ev_bslW (sz n : Nat) (zs : List MV) (ps : List (Nat × Nat × X)) : Iop.ev c f M (.bsl sz n zs ps) = bslW M sz n (fillM (ps.map fun x => (x.1, x.2.1, x.2.2.ev f)) (zrow zs n)) := by
  simp only [ev_bsl, bslW, pushV]
  cases fillM (ps.map fun x => (x.1, x.2.1, x.2.2.ev f)) (zrow zs n) <;> cases Nat.ble M.lo M.n <;> rfl
theorem zrow_one (zs : List MV) : zrow zs 1 = zs := by
  rw [zrow_succ, zrow_zero, List.append_nil]
theorem fill_nil (l : List MV) : fillM [] l = some l := rfl
theorem fill_ag {n : Nat} {e zs : List MV} (h : e.length = n) (hz : zs.length = n) : fillM [(0, n, .ag e)] zs = some e := by
  rw [fillM_cons]
  simp only [cells_ag, h, beq_self_eq_true, Bool.true_and, Nat.zero_add, hz, ble_t' (Nat.le_refl n), isU, Bool.not_false, cond_true, fill_nil, splice, List.take_zero, List.nil_append]
  rw [List.drop_eq_nil_of_le (by omega), List.append_nil]
theorem fill_one {x z : MV} (h : x.cells = [x]) (hu : isU x = false) : fillM [(0, 1, x)] [z] = some [x] := by
  rw [fillM_cons, h, hu]
  rfl
theorem puM_eqA (n : Nat) (neg : Bool) (a b : List MV) : puM (.eqA n neg) (.ag a) (.ag b) = bif a.length == n then (match eqAg a b with
    | some r => some (.b (bif neg then !r else r))
    | none => none) else none := rfl
theorem eqAg_nil : eqAg [] [] = some true := rfl
theorem eqAg_i (k : IntKind) (x y : Int) (a b : List MV) : eqAg (.i k x :: a) (.i k y :: b) = match eqAg a b with
    | some t => some (bif x == y then t else false)
    | none => none := by cases k <;> rfl
theorem resL_1 (r : IRes) : resL f M [r] = match r.ev f M with
    | some m => some [m]
    | none => none := by
  show (match r.ev f M, resL f M [] with
    | some m, some l => some (m :: l)
    | _, _ => none) = _
  cases r.ev f M <;> rfl
theorem RowAt.sl {sz : Nat} {v : MV} {es : List (List MV)} (h : RowAt M sz v es) : isSl v = true ∧ slen v = es.length := by
  obtain ⟨_, ⟨rfl, rfl⟩ | ⟨id, off, e, ro, s, c, rfl, _⟩⟩ := h <;> exact ⟨rfl, rfl⟩
theorem RowAt.read {sz : Nat} {v : MV} {es : List (List MV)} (h : RowAt M sz v es) {i : Nat} {e : List MV} (he : es[i]? = some e) : ∃ ro s c, M.get (sid v) = some (.cs ro s c) ∧ sid v < M.n ∧ At c (soff v + i * sz) e := by
  obtain ⟨hs, ⟨rfl, rfl⟩ | ⟨id, off, ed, ro, s, c, rfl, h2, h3, h4⟩⟩ := h
  · simp at he
  · exact ⟨ro, s, c, h2, h3, h4.elem hs he⟩
def consO : Option MV → Option (List MV) → Option (List MV)
  | some m, some l => some (m :: l)
  | _, _ => none
theorem resL_c (r s : IRes) (rs : List IRes) : resL f M (r :: s :: rs) = consO (r.ev f M) (resL f M (s :: rs)) := by
  show (match r.ev f M, resL f M (s :: rs) with
    | some m, some l => some (m :: l)
    | _, _ => none) = _
  cases r.ev f M <;> cases resL f M (s :: rs) <;> rfl
theorem consO_some (m : MV) (l : List MV) : consO (some m) (some l) = some (m :: l) := rfl
theorem pack1 (x : MV) : packM [x] = x := rfl
theorem pack2 (x y : MV) : packM [x, y] = .tp [x, y] := rfl
theorem pack3 (x y z : MV) : packM [x, y, z] = .tp [x, y, z] := rfl
theorem ext_tp (i : Nat) (l : List MV) : extV i (.tp l) = l[i]? := rfl
end Go.Proofs.YtpdcahaggacacaaDoor.Ev
set_option linter.unusedSimpArgs false
set_option linter.unusedVariables false
namespace Go.Proofs.YtpdcahaggacacaaDoor.Ev
open Go Go.Deep
def TypedFs (T : TypeId → List MV → Prop) : List Field → List MV → Prop
  | [], cs => cs = []
  | f :: fs, cs => ∃ a b, cs = a ++ b ∧ T f.type a ∧ TypedFs T fs b
def TypedN (T : TypeId → List MV → Prop) (e : TypeId) : Nat → List MV → Prop
  | 0, cs => cs = []
  | n + 1, cs => ∃ a b, cs = a ++ b ∧ T e a ∧ TypedN T e n b
def Typed (P : Program) (M : MH) : Nat → TypeId → List MV → Prop
  | 0, _, _ => False
  | n + 1, t, cs => match P.underlying t with
    | some .bool => ∃ b, cs = [.b b]
    | some (.int k) => ∃ z, cs = [.i k z] ∧ (Lit.int k z).wf = true
    | some .string => ∃ s, cs = [.s s] ∧ s.size ≤ maxLen
    | some (.slice e) => ∃ v es, cs = [v] ∧ RowAt M (P.cellsOf e) v es ∧ es.length ≤ maxLen ∧ ∀ x ∈ es, Typed P M n e x
    | some (.struct fs) => TypedFs (Typed P M n) fs.toList cs
    | some (.array m e) => TypedN (Typed P M n) e m cs
    | _ => False
theorem TypedFs.mono {T T' : TypeId → List MV → Prop} (h : ∀ t cs, T t cs → T' t cs) : ∀ {fs : List Field} {cs : List MV}, TypedFs T fs cs → TypedFs T' fs cs
  | [], cs, k => k
  | f :: fs, cs, ⟨a, b, h1, h2, h3⟩ => ⟨a, b, h1, h _ _ h2, TypedFs.mono h h3⟩
theorem TypedN.mono {T T' : TypeId → List MV → Prop} (h : ∀ t cs, T t cs → T' t cs) {e : TypeId} : ∀ {n : Nat} {cs : List MV}, TypedN T e n cs → TypedN T' e n cs
  | 0, cs, k => k
  | n + 1, cs, ⟨a, b, h1, h2, h3⟩ => ⟨a, b, h1, h _ _ h2, TypedN.mono h h3⟩
theorem Typed.ext {P : Program} {M M' : MH} (k : Ext M M') : ∀ {n : Nat} {t : TypeId} {cs : List MV}, Typed P M n t cs → Typed P M' n t cs
  | 0, t, cs, h => h
  | n + 1, t, cs, h => by
    have ih : ∀ t cs, Typed P M n t cs → Typed P M' n t cs := fun t cs h => Typed.ext k h
    unfold Typed at h ⊢
    cases hu : P.underlying t with
    | none => rw [hu] at h; exact h.elim
    | some d =>
      rw [hu] at h
      cases d <;> simp only at h ⊢ <;> first | exact h | skip
      · obtain ⟨v, es, h1, h2, h3, h4⟩ := h
        exact ⟨v, es, h1, h2.ext k, h3, fun x hx => ih _ _ (h4 x hx)⟩
      · exact h.mono ih
      · exact h.mono ih
def fieldsOk (P : Program) (S : List TypeId) : List Field → Nat → Bool
  | [], _ => true
  | f :: r, o => (S.contains f.type && Nat.beq f.offset o) && fieldsOk P S r (o + P.cellsOf f.type)
def sumF (P : Program) : List Field → Nat → Nat
  | [], o => o
  | f :: r, o => sumF P r (o + P.cellsOf f.type)
def typeOk (P : Program) (S : List TypeId) (t : TypeId) : Bool := match P.underlying t with
  | some .bool => Nat.beq (P.cellsOf t) 1
  | some (.int _) => Nat.beq (P.cellsOf t) 1
  | some .string => Nat.beq (P.cellsOf t) 1
  | some (.slice e) => (S.contains e && Nat.blt 0 (P.cellsOf e)) && Nat.beq (P.cellsOf t) 1
  | some (.struct fs) => fieldsOk P S fs.toList 0 && Nat.beq (sumF P fs.toList 0) (P.cellsOf t)
  | some (.array m e) => S.contains e && Nat.beq (m * P.cellsOf e) (P.cellsOf t)
  | _ => false
def Closed (P : Program) (S : List TypeId) : Prop := ∀ t ∈ S, typeOk P S t = true
structure Opened (P : Program) (w : World) (β : BM) (M : MH) : Prop where
  inv : Inv β M w
  glob : GlobOk β
  ro : ∀ id o, M.get id = some o → o.rw = false
  lo : M.lo ≤ M.n
  zero : 0 < w.heap.size ∨ (M.get 0 = some thinO ∧ 0 < M.n ∧ β 0 = some ⟨0, 0, 0⟩)
theorem DenL.take {β : BM} {l : List MV} {vs : List Value} (h : DenL β l vs) (n : Nat) : DenL β (l.take n) (vs.take n) := by
  refine ⟨by rw [List.length_take, List.length_take, h.1], fun j x hj => ?_⟩
  rw [List.getElem?_take] at hj
  split at hj
  · rename_i hlt
    obtain ⟨v, h1, h2⟩ := h.2 j x hj
    exact ⟨v, by rw [List.getElem?_take, if_pos hlt]; exact h1, h2⟩
  · cases hj
theorem Opened.push {P : Program} {w : World} {β : BM} {M : MH} (h : Opened P w β M) (sz : Nat) (c : T MV) (B : Bl) (hB : B.blk < w.heap.size) (hc : ∀ i x, cget c i = some x → ∃ v, w.cell? ⟨B.blk, B.off + i, none⟩ = some v ∧ Den β x v) :
    ∃ β', Opened P w β' (M.push (.cs true sz c)) ∧ β.le β' ∧ β' M.n = some B := by
  have hle : β.le fun id => if id = M.n then some B else β id := fun id B' e => by
    by_cases h1 : id = M.n
    · subst h1; rw [h.inv.fresh M.n (Nat.le_refl _)] at e; cases e
    · show (if id = M.n then some B else β id) = some B'
      rw [if_neg h1]; exact e
  refine ⟨fun id => if id = M.n then some B else β id, ⟨⟨fun id hid => ?_, fun id B' e => ?_, fun id o ho => ?_, fun id id' o o' B1 B2 ho ho' hr e1 e2 hne => ?_⟩, h.glob.mono hle, fun id o ho => ?_, ?_, ?_⟩, hle, if_pos rfl⟩
  · have hid : M.n + 1 ≤ id := hid
    show (if id = M.n then some B else β id) = none
    rw [if_neg (by omega)]
    exact h.inv.fresh id (by omega)
  · by_cases h1 : id = M.n
    · have e' : some B = some B' := by rw [← e]; exact (if_pos h1).symm
      injection e' with e'; subst e'; exact .inl hB
    · have e' : β id = some B' := by rw [← e]; exact (if_neg h1).symm
      rcases h.inv.old id B' e' with h2 | ⟨rfl, h2⟩
      · exact .inl h2
      · exact .inr ⟨rfl, by rw [MH.get_push, if_neg fun x => h1 x.symm]; exact h2⟩
  · rw [MH.get_push] at ho
    by_cases h1 : M.n = id
    · rw [if_pos h1] at ho
      injection ho with ho
      subst ho
      exact ⟨B, if_pos h1.symm, fun i x hx => let ⟨v, a, b⟩ := hc i x hx; ⟨v, a, b.mono hle⟩⟩
    · rw [if_neg h1] at ho
      obtain ⟨B', e, hk⟩ := h.inv.obj id o ho
      exact ⟨B', hle _ _ e, hk.mono hle rfl⟩
  · exfalso
    rw [MH.get_push] at ho
    by_cases h1 : M.n = id
    · rw [if_pos h1] at ho; injection ho with ho; subst ho; cases hr
    · rw [if_neg h1] at ho; rw [h.ro id o ho] at hr; cases hr
  · rw [MH.get_push] at ho
    by_cases h1 : M.n = id
    · rw [if_pos h1] at ho; injection ho with ho; subst ho; rfl
    · rw [if_neg h1] at ho; exact h.ro id o ho
  · exact Nat.le_succ_of_le h.lo
  · exact .inl (Nat.lt_of_le_of_lt (Nat.zero_le _) hB)
def OpenAs (P : Program) (w : World) (n : Nat) (t : TypeId) (vs : List Value) : Prop := ∀ β M, Opened P w β M → ∃ β' M' cs, Opened P w β' M' ∧ β.le β' ∧ Ext M M' ∧ DenL β' cs vs ∧ Typed P M' n t cs
variable {H : Type} {enc : TypeId × Value → H} {P : Program} {w : World} {held : Bool}
theorem open_fields {T : TypeId → List Value → Prop} {n : Nat} {S : List TypeId} (hT : ∀ t vs, t ∈ S → T t vs → OpenAs P w n t vs) : ∀ (fs : List Field) (o : Nat) (vs : List Value), fieldsOk P S fs o = true → o + vs.length = sumF P fs o → (∀ f ∈ fs, T f.type (((vs.drop (f.offset - o)).take (P.cellsOf f.type)))) →
    ∀ β M, Opened P w β M → ∃ β' M' cs, Opened P w β' M' ∧ β.le β' ∧ Ext M M' ∧ DenL β' cs vs ∧ TypedFs (Typed P M' n) fs cs
  | [], o, vs, hk, hl, hf, β, M, hO => by
    have : vs = [] := List.length_eq_zero_iff.1 (by have : o + vs.length = o := hl; omega)
    subst this
    exact ⟨β, M, [], hO, .refl β, .refl M, .nil β, rfl⟩
  | f :: fs, o, vs, hk, hl, hf, β, M, hO => by
    simp only [fieldsOk, Bool.and_eq_true] at hk
    obtain ⟨⟨hS, ho⟩, hr⟩ := hk
    have ho : f.offset = o := Nat.eq_of_beq_eq_true ho
    have hS : f.type ∈ S := by simpa using hS
    have hle : ∀ (fs : List Field) (o : Nat), o ≤ sumF P fs o := by
      intro fs
      induction fs with
      | nil => exact fun o => Nat.le_refl _
      | cons f fs ih => exact fun o => Nat.le_trans (Nat.le_add_right _ _) (ih (o + P.cellsOf f.type))
    have hl' : o + vs.length = sumF P fs (o + P.cellsOf f.type) := hl
    have h0 := hle fs (o + P.cellsOf f.type)
    have hoff : ∀ (fs : List Field) (o : Nat), fieldsOk P S fs o = true → ∀ f ∈ fs, o ≤ f.offset := by
      intro fs
      induction fs with
      | nil => exact fun o _ f hf => by cases hf
      | cons f fs ih =>
        intro o hk g hg
        simp only [fieldsOk, Bool.and_eq_true] at hk
        rcases List.mem_cons.1 hg with rfl | hg
        · exact Nat.le_of_eq (Nat.eq_of_beq_eq_true hk.1.2).symm
        · exact Nat.le_trans (Nat.le_add_right _ _) (ih _ hk.2 g hg)
    have h1 := hf f List.mem_cons_self
    rw [ho, Nat.sub_self, List.drop_zero] at h1
    obtain ⟨β1, M1, a, hO1, hb1, hx1, hd1, ht1⟩ := hT _ _ hS h1 β M hO
    obtain ⟨β2, M2, b, hO2, hb2, hx2, hd2, ht2⟩ := open_fields hT fs (o + P.cellsOf f.type) (vs.drop (P.cellsOf f.type)) hr (by rw [List.length_drop]; omega) (fun g hg => by
      have := hf g (List.mem_cons_of_mem _ hg)
      have hge := hoff fs _ hr g hg
      rw [List.drop_drop, show P.cellsOf f.type + (g.offset - (o + P.cellsOf f.type)) = g.offset - o from by omega]
      exact this) β1 M1 hO1
    refine ⟨β2, M2, a ++ b, hO2, hb1.trans hb2, hx1.trans hx2, ?_, a, b, rfl, Typed.ext hx2 ht1, ht2⟩
    have := (hd1.mono hb2).append hd2
    rwa [List.take_append_drop] at this
theorem open_cells {T : TypeId → List Value → Prop} {n : Nat} {e : TypeId} (hT : ∀ vs, T e vs → OpenAs P w n e vs) : ∀ (m : Nat) (vs : List Value), vs.length = m * P.cellsOf e → (∀ i, i < m → T e ((vs.drop (i * P.cellsOf e)).take (P.cellsOf e))) →
    ∀ β M, Opened P w β M → ∃ β' M' cs, Opened P w β' M' ∧ β.le β' ∧ Ext M M' ∧ DenL β' cs vs ∧ TypedN (Typed P M' n) e m cs
  | 0, vs, hl, hf, β, M, hO => by
    have : vs = [] := List.length_eq_zero_iff.1 (by rw [hl, Nat.zero_mul])
    subst this
    exact ⟨β, M, [], hO, .refl β, .refl M, .nil β, rfl⟩
  | m + 1, vs, hl, hf, β, M, hO => by
    have h1 := hf 0 (Nat.succ_pos _)
    rw [Nat.zero_mul, List.drop_zero] at h1
    rw [Nat.succ_mul] at hl
    obtain ⟨β1, M1, a, hO1, hb1, hx1, hd1, ht1⟩ := hT _ h1 β M hO
    obtain ⟨β2, M2, b, hO2, hb2, hx2, hd2, ht2⟩ := open_cells hT m (vs.drop (P.cellsOf e)) (by rw [List.length_drop]; omega) (fun i hi => by
      have := hf (i + 1) (by omega)
      rw [List.drop_drop, show P.cellsOf e + i * P.cellsOf e = (i + 1) * P.cellsOf e from by rw [Nat.succ_mul]; omega]
      exact this) β1 M1 hO1
    refine ⟨β2, M2, a ++ b, hO2, hb1.trans hb2, hx1.trans hx2, ?_, a, b, rfl, Typed.ext hx2 ht1, ht2⟩
    have := (hd1.mono hb2).append hd2
    rwa [List.take_append_drop] at this
theorem open_elems {n L : Nat} {e : TypeId} {a : Addr} (hT : ∀ i, i < L → OpenAs P w n e ((w.cells? 0 (a.add (i * P.cellsOf e)) (P.cellsOf e)).getD [])) : ∀ (m i : Nat), i + m ≤ L → ∀ β M, Opened P w β M → ∃ (β' : BM) (M' : MH) (es : List (List MV)), Opened P w β' M' ∧ β.le β' ∧ Ext M M' ∧ es.length = m ∧ (∀ x ∈ es, Typed P M' n e x) ∧ ∀ j x, es[j]? = some x → DenL β' x ((w.cells? 0 (a.add ((i + j) * P.cellsOf e)) (P.cellsOf e)).getD [])
  | 0, i, _, β, M, hO => ⟨β, M, [], hO, .refl β, .refl M, rfl, fun x hx => (by cases hx), fun j x hj => (by simp at hj)⟩
  | m + 1, i, hL, β, M, hO => by
    obtain ⟨β1, M1, c, hO1, hb1, hx1, hd1, ht1⟩ := hT i (by omega) β M hO
    obtain ⟨β2, M2, es, hO2, hb2, hx2, hl2, ht2, hd2⟩ := open_elems hT m (i + 1) (by omega) β1 M1 hO1
    refine ⟨β2, M2, c :: es, hO2, hb1.trans hb2, hx1.trans hx2, by rw [List.length_cons, hl2], fun x hx => ?_, fun j x hj => ?_⟩
    · rcases List.mem_cons.1 hx with rfl | hx
      · exact Typed.ext hx2 ht1
      · exact ht2 x hx
    · cases j with
      | zero =>
        simp only [List.getElem?_cons_zero, Option.some.injEq] at hj
        subst hj
        exact hd1.mono hb2
      | succ j =>
        rw [show i + (j + 1) = i + 1 + j from by omega]
        exact hd2 j x (by simpa using hj)
theorem add_at (a : Addr) (k : Nat) (h : a.spot = none) : a.add k = ⟨a.block, a.off + k, none⟩ := by
  obtain ⟨b, o, s⟩ := a
  simp only at h
  subst h
  unfold Addr.add
  split
  · rename_i hk; subst hk; rfl
  · rfl
theorem spot_none {a : Addr} {v : Value} (h : w.cell? a = some v) : a.spot = none := by
  obtain ⟨B, o, sp⟩ := a
  cases sp with
  | none => rfl
  | some q =>
    simp only [World.cell?, Option.isSome_some, if_true] at h
    split at h <;> simp at h
theorem Sized.at {sz : Nat} : ∀ {es : List (List MV)} {i : Nat} {x : MV}, Sized sz es → es.flatten[i]? = some x → ∃ j r c, i = j * sz + r ∧ r < sz ∧ es[j]? = some c ∧ c[r]? = some x
  | [], i, x, hs, h => by simp at h
  | e :: es, i, x, hs, h => by
    have he : e.length = sz := hs e List.mem_cons_self
    rw [List.flatten_cons] at h
    by_cases hi : i < e.length
    · rw [List.getElem?_append_left hi] at h
      exact ⟨0, i, e, by omega, by omega, rfl, h⟩
    · rw [List.getElem?_append_right (by omega)] at h
      obtain ⟨j, r, c, h1, h2, h3, h4⟩ := Sized.at (fun y hy => hs y (List.mem_cons_of_mem _ hy)) h
      exact ⟨j + 1, r, c, by rw [Nat.succ_mul]; omega, h2, by simpa using h3, h4⟩
theorem open_any {S : List TypeId} (hS : Closed P S) : ∀ (n : Nat) (t : TypeId) (vs : List Value) (x : DataW H × List MemPlace), t ∈ S → DataW.trod enc P w 0 (fun _ => true) held n t vs = some x → OpenAs P w n t vs
  | 0, t, vs, x, ht, h => by simp [DataW.trod] at h
  | n + 1, t, vs, x, ht, h => by
    have ih : ∀ t vs x, t ∈ S → DataW.trod enc P w 0 (fun _ => true) held n t vs = some x → OpenAs P w n t vs := open_any hS n
    have hk := hS t ht
    unfold typeOk at hk
    intro β M hO
    cases hu : P.underlying t with
    | none => rw [hu] at hk; cases hk
    | some d =>
      rw [hu] at hk
      cases d <;> simp only [Bool.and_eq_true] at hk <;> first | (cases hk; done) | skip
      · obtain ⟨b, rfl, _⟩ := DataW.trod_bool hu h
        exact ⟨β, M, [.b b], hO, .refl β, .refl M, .cons (.b b) (.nil β), by simp only [Typed, hu]; exact ⟨b, rfl⟩⟩
      · obtain ⟨z, rfl, _, hz⟩ := DataW.trod_int hu h
        exact ⟨β, M, [.i _ z], hO, .refl β, .refl M, .cons (.i _ z) (.nil β), by simp only [Typed, hu]; exact ⟨z, rfl, hz⟩⟩
      · obtain ⟨s, rfl, _, hs⟩ := DataW.trod_string hu h
        exact ⟨β, M, [.s s], hO, .refl β, .refl M, .cons (.s s) (.nil β), by simp only [Typed, hu]; exact ⟨s, rfl, hs⟩⟩
      · rename_i e
        obtain ⟨⟨hc, hz⟩, h1⟩ := hk
        have hc : e ∈ S := by simpa using hc
        have hz : 0 < P.cellsOf e := Nat.le_of_ble_eq_true hz
        rcases DataW.trod_slice hu h with ⟨rfl, _⟩ | ⟨a, len, cap, elems, rest, q, e1, rfl, _, hb, hl, hm, hlen, hel, hsp, hns⟩
        · exact ⟨β, M, [.nils], hO, .refl β, .refl M, .cons .nils (.nil β), by simp only [Typed, hu]; exact ⟨.nils, [], rfl, ⟨fun x hx => (by cases hx), .inl ⟨rfl, rfl⟩⟩, Nat.zero_le _, fun x hx => (by cases hx)⟩⟩
        injection e1 with e1
        subst e1
        have hone : ∀ i, i < len → ∃ cs, w.cells? 0 (a.add (i * P.cellsOf e)) (P.cellsOf e) = some cs ∧ OpenAs P w n e cs := fun i hi => by
          have := hel i hi
          rw [List.getElem?_eq_getElem (by omega), Option.bind_eq_some_iff] at this
          obtain ⟨cs, g1, g2⟩ := this
          exact ⟨cs, g1, ih e cs _ hc g2⟩
        have hcap : 0 < cap → a.spot = none ∧ a.block < w.heap.size := fun hcap => by
          have hfirst : ∃ cs, w.cells? 0 a (P.cellsOf e) = some cs := by
            by_cases h0 : 0 < len
            · obtain ⟨cs, g, _⟩ := hone 0 h0
              rw [Nat.zero_mul] at g
              exact ⟨cs, g⟩
            · have := (hsp rfl).2 0 (by omega)
              rw [List.getElem?_eq_getElem (by have := (hsp rfl).1; omega), Option.bind_eq_some_iff] at this
              obtain ⟨cs, g, _⟩ := this
              rw [show len + 0 = 0 from by omega, Nat.zero_mul] at g
              exact ⟨cs, g⟩
          obtain ⟨cs, g⟩ := hfirst
          obtain ⟨_, gl, gat⟩ := World.cells?_some g
          have g0 := gat 0 hz
          have : cs[0]? = some cs[0] := List.getElem?_eq_getElem (by omega)
          rw [this] at g0
          exact ⟨spot_none (a := a) g0, World.block_lt_of_cell? w a g0⟩
        obtain ⟨β1, M1, es, hO1, hb1, hx1, hl1, ht1, hd1⟩ := open_elems (P := P) (w := w) (n := n) (L := len) (e := e) (a := a) (fun i hi => by
          obtain ⟨cs, g1, g2⟩ := hone i hi
          rw [g1]
          exact g2) len 0 (by omega) β M hO
        have hsz : Sized (P.cellsOf e) es := fun x hx => by
          obtain ⟨j, hj, rfl⟩ := List.mem_iff_getElem.1 hx
          obtain ⟨cs, g1, g2⟩ := hone j (by omega)
          have := hd1 j _ (List.getElem?_eq_getElem hj)
          rw [Nat.zero_add, g1] at this
          rw [this.1]
          exact (World.cells?_some g1).2.1
        have hcell : ∀ i x, cget (ofL es.flatten 0) i = some x → ∃ v, w.cell? ⟨a.block, a.off + i, none⟩ = some v ∧ Den β1 x v := fun i x hx => by
          rw [cget_ofL, if_pos (Nat.zero_le _), Nat.sub_zero] at hx
          obtain ⟨j, r, c, rfl, hr, hj, hcr⟩ := hsz.at hx
          have hjl : j < len := by have := (List.getElem?_eq_some_iff.1 hj).1; omega
          obtain ⟨cs, g1, g2⟩ := hone j hjl
          have hd := hd1 j c hj
          rw [Nat.zero_add, g1] at hd
          obtain ⟨v, g3, g4⟩ := hd.2 r x hcr
          obtain ⟨_, gl, gat⟩ := World.cells?_some g1
          have g5 := gat r hr
          have hsp0 := (hcap (by omega)).1
          rw [add_at a _ hsp0, add_at _ _ rfl] at g5
          rw [← Nat.add_assoc]
          exact ⟨v, g5.trans g3, g4⟩
        by_cases h0 : 0 < cap
        · obtain ⟨hsp0, hblk⟩ := hcap h0
          obtain ⟨β2, hO2, hb2, hβ⟩ := hO1.push (P.cellsOf e) (ofL es.flatten 0) ⟨a.block, a.off, cap⟩ hblk hcell
          refine ⟨β2, _, [.sl M1.n 0 len 0], hO2, hb1.trans hb2, hx1.trans (.push M1 _), .cons (.sl M1.n 0 len 0 _ a hβ (by simpa using hl) fun _ => ?_) (.nil _), ?_⟩
          · obtain ⟨b, o, sp⟩ := a
            simp only at hsp0
            subst hsp0
            rfl
          · simp only [Typed, hu]
            refine ⟨_, es, rfl, ⟨hsz, .inr ⟨M1.n, 0, 0, true, _, _, by rw [hl1], push_new _, Nat.lt_succ_self _, at_ofL _⟩⟩, by rw [hl1]; omega, fun x hx => Typed.ext (.push M1 _) (ht1 x hx)⟩
        · have hc0 : cap = 0 := by omega
          have hl0 : len = 0 := by omega
          subst hc0 hl0
          have he0 : es = [] := List.length_eq_zero_iff.1 hl1
          subst he0
          rcases hO1.zero with hw | ⟨z1, z2, z3⟩
          · obtain ⟨β2, hO2, hb2, hβ⟩ := hO1.push (P.cellsOf e) (ofL [] 0) ⟨0, 0, 0⟩ hw (fun i x hx => by rw [cget_ofL] at hx; simp at hx)
            refine ⟨β2, _, [.sl M1.n 0 0 0], hO2, hb1.trans hb2, hx1.trans (.push M1 _), .cons (.sl M1.n 0 0 0 _ a hβ (Nat.le_refl _) fun h => absurd h (Nat.lt_irrefl _)) (.nil _), ?_⟩
            simp only [Typed, hu]
            exact ⟨_, [], rfl, ⟨hsz, .inr ⟨M1.n, 0, 0, true, _, _, rfl, push_new _, Nat.lt_succ_self _, at_ofL _⟩⟩, Nat.zero_le _, fun x hx => (by cases hx)⟩
          · refine ⟨β1, M1, [.sl 0 0 0 0], hO1, hb1, hx1, .cons (.sl 0 0 0 0 ⟨0, 0, 0⟩ a z3 (Nat.le_refl _) fun h => absurd h (Nat.lt_irrefl _)) (.nil _), ?_⟩
            simp only [Typed, hu]
            exact ⟨_, [], rfl, ⟨hsz, .inr ⟨0, 0, 0, true, 0, .lf, rfl, z1, z2, .nil _ _⟩⟩, Nat.zero_le _, fun x hx => (by cases hx)⟩
      · rename_i m e
        obtain ⟨hc, hz⟩ := hk
        obtain ⟨xs, q, e1, _, hl, hlen, hf⟩ := DataW.trod_array hu h
        injection e1 with e1
        subst e1
        have hz := Nat.eq_of_beq_eq_true hz
        have hc : e ∈ S := by simpa using hc
        obtain ⟨β', M', cs, k1, k2, k3, k4, k5⟩ := open_cells (P := P) (w := w) (n := n) (e := e) (T := fun t vs => ∃ x, DataW.trod enc P w 0 (fun _ => true) held n t vs = some x) (fun vs ⟨x, hx⟩ => ih e vs x hc hx) m vs (by rw [hl, hz]) (fun i hi => by
          have := hf i hi
          rw [List.getElem?_eq_getElem (by omega)] at this
          exact ⟨_, this⟩) β M hO
        exact ⟨β', M', cs, k1, k2, k3, k4, by simp only [Typed, hu]; exact k5⟩
      · rename_i fs
        obtain ⟨hf, hz⟩ := hk
        have hz := Nat.eq_of_beq_eq_true hz
        obtain ⟨xs, q, e1, _, hl, hlen, hg⟩ := DataW.trod_struct hu h
        injection e1 with e1
        subst e1
        obtain ⟨β', M', cs, k1, k2, k3, k4, k5⟩ := open_fields (P := P) (w := w) (n := n) (S := S) (T := fun t vs => ∃ x, DataW.trod enc P w 0 (fun _ => true) held n t vs = some x) (fun t vs ht ⟨x, hx⟩ => ih t vs x ht hx) fs.toList 0 vs hf (by rw [Nat.zero_add, hl, hz]) (fun f hf => by
          obtain ⟨i, hi, rfl⟩ := List.mem_iff_getElem.1 hf
          have := hg i fs.toList[i] (by simp)
          rw [List.getElem?_eq_getElem (by rw [hlen]; simpa using hi)] at this
          rw [Nat.sub_zero]
          exact ⟨_, this⟩) β M hO
        exact ⟨β', M', cs, k1, k2, k3, k4, by simp only [Typed, hu]; exact k5⟩
end Go.Proofs.YtpdcahaggacacaaDoor.Ev
set_option linter.unusedSimpArgs false
set_option linter.unusedVariables false
namespace Go.Proofs.YtpdcahaggacacaaDoor.Ev
open Go Go.Deep Go.RowKit Go.WideShapes Kit
def ArgTyped (P : Program) (M : MH) (t : TypeId) (m : MV) : Prop := ∃ n cs, Typed P M n t cs ∧ match P.underlying t with
  | some (.struct _) => m = .ag cs
  | some (.array _ _) => m = .ag cs
  | _ => cs = [m]
def ArgsTyped (P : Program) (M : MH) : List TypeId → List MV → Prop
  | [], ms => ms = []
  | t :: ts, ms => ∃ m r, ms = m :: r ∧ ArgTyped P M t m ∧ ArgsTyped P M ts r
theorem ArgTyped.ext {P : Program} {M M' : MH} (k : Ext M M') {t : TypeId} {m : MV} (h : ArgTyped P M t m) : ArgTyped P M' t m :=
  let ⟨n, cs, h1, h2⟩ := h
  ⟨n, cs, Typed.ext k h1, h2⟩
variable {H : Type} {enc : TypeId × Value → H} {P : Program} {w : World}
theorem open_arg {S : List TypeId} (hS : Closed P S) {t : TypeId} {v : Value} {d : DataW H} {ps : List MemPlace} {r : Reach} {base : Nat} (ht : t ∈ S) (h : DataW.Trod enc P w 0 (fun _ => true) true t v d ps) (hv : Value.okWide P w r base t v) :
    ∀ β M, Opened P w β M → ∃ β' M' m, Opened P w β' M' ∧ β.le β' ∧ Ext M M' ∧ Den β' m v ∧ ArgTyped P M' t m := by
  intro β M hO
  obtain ⟨n, hn⟩ := h
  obtain ⟨β', M', cs, h1, h2, h3, h4, h5⟩ := open_any hS n t v.cells.toList _ ht hn β M hO
  have hk := hS t ht
  unfold typeOk at hk
  have one : (∀ xs, v ≠ .agg xs) → (∀ cs, Typed P M' n t cs → ∃ x, cs = [x]) → ∃ m, Den β' m v ∧ cs = [m] := fun hne hc => by
    obtain ⟨x, rfl⟩ := hc cs h5
    have hcell : v.cells.toList = [v] := by
      cases v <;> first | rfl | exact absurd rfl (hne _)
    rw [hcell] at h4
    obtain ⟨v', ws, e, hd, hr⟩ := h4.inv
    injection e with e1 e2
    subst e1
    exact ⟨x, hd, rfl⟩
  cases n with
  | zero => exact h5.elim
  | succ n =>
  cases hu : P.underlying t with
  | none => rw [hu] at hk; cases hk
  | some k =>
    rw [hu] at hk
    cases k <;> simp only [Bool.and_eq_true] at hk <;> first | (cases hk; done) | skip
    · obtain ⟨b, rfl⟩ := okWide_bool hu hv
      obtain ⟨m, hm, rfl⟩ := one (fun xs e => by cases e) fun cs hc => by simp only [Typed, hu] at hc; obtain ⟨b, rfl⟩ := hc; exact ⟨_, rfl⟩
      exact ⟨β', M', m, h1, h2, h3, hm, n + 1, [m], h5, by simp only [hu]⟩
    · obtain ⟨b, rfl⟩ := okWide_int hu hv
      obtain ⟨m, hm, rfl⟩ := one (fun xs e => by cases e) fun cs hc => by simp only [Typed, hu] at hc; obtain ⟨b, rfl, _⟩ := hc; exact ⟨_, rfl⟩
      exact ⟨β', M', m, h1, h2, h3, hm, n + 1, [m], h5, by simp only [hu]⟩
    · obtain ⟨b, rfl⟩ := okWide_string hu hv
      obtain ⟨m, hm, rfl⟩ := one (fun xs e => by cases e) fun cs hc => by simp only [Typed, hu] at hc; obtain ⟨b, rfl, _⟩ := hc; exact ⟨_, rfl⟩
      exact ⟨β', M', m, h1, h2, h3, hm, n + 1, [m], h5, by simp only [hu]⟩
    · obtain ⟨a, l, c, rfl⟩ := okWide_slice hu hv
      obtain ⟨m, hm, rfl⟩ := one (fun xs e => by cases e) fun cs hc => by simp only [Typed, hu] at hc; obtain ⟨v, es, rfl, _⟩ := hc; exact ⟨_, rfl⟩
      exact ⟨β', M', m, h1, h2, h3, hm, n + 1, [m], h5, by simp only [hu]⟩
    · unfold Value.okWide at hv
      rw [hu] at hv
      obtain ⟨xs, rfl, _⟩ := hv
      exact ⟨β', M', .ag cs, h1, h2, h3, DenL.agg h4, n + 1, cs, h5, by simp only [hu]⟩
    · obtain ⟨xs, rfl, _⟩ := okWide_struct hu hv
      exact ⟨β', M', .ag cs, h1, h2, h3, DenL.agg h4, n + 1, cs, h5, by simp only [hu]⟩
theorem open_args {S : List TypeId} (hS : Closed P S) {r : Reach} {base : Nat} : ∀ (ts : List TypeId) (vs : List Value) (ds : List (DataW H)) (ps : List MemPlace), (∀ t ∈ ts, t ∈ S) → DataW.TrodAll enc P w 0 (fun _ => true) true ts vs ds ps → (∀ (j : Nat) t v, ts[j]? = some t → vs[j]? = some v → Value.okWide P w r base t v) →
    ∀ β M, Opened P w β M → ∃ β' M' ms, Opened P w β' M' ∧ β.le β' ∧ Ext M M' ∧ DenL β' ms vs ∧ ArgsTyped P M' ts ms
  | [], [], [], ps, hin, h, hv, β, M, hO => ⟨β, M, [], hO, .refl β, .refl M, .nil β, rfl⟩
  | t :: ts, v :: vs, d :: ds, ps, hin, h, hv, β, M, hO => by
    obtain ⟨p, q, h1, h2, _⟩ := h
    obtain ⟨β1, M1, m, a1, a2, a3, a4, a5⟩ := open_arg hS (hin t List.mem_cons_self) h1 (hv 0 t v rfl rfl) β M hO
    obtain ⟨β2, M2, ms, b1, b2, b3, b4, b5⟩ := open_args hS ts vs ds q (fun t ht => hin t (List.mem_cons_of_mem _ ht)) h2 (fun j t v h h' => hv (j + 1) t v (by simpa using h) (by simpa using h')) β1 M1 a1
    exact ⟨β2, M2, m :: ms, b1, a2.trans b2, a3.trans b3, .cons (a4.mono b2) b4, m, ms, rfl, a5.ext b3, b5⟩
theorem callF_inv {fns : Nat → Option IFn} {n g : Nat} {fn : IFn} {args : List MV} {M M' : MH} {m : MV} (hg : fns g = some fn) (h : callF fns n g args M = some (m, M')) : args.length ≤ fn.sz ∧ Wp fns fn.body (argsF args 0 .lf) M (retQ fn fun m' M3 => m' = m ∧ M3 = M') := by
  unfold callF at h
  rw [hg] at h
  simp only at h
  cases hb : Nat.ble args.length fn.sz with
  | false => rw [hb] at h; cases h
  | true =>
    rw [hb] at h
    simp only [cond_true] at h
    refine ⟨Nat.le_of_ble_eq_true hb, ?_⟩
    cases h1 : run fns n fn.body (argsF args 0 .lf) M with
    | none => rw [h1] at h; cases h
    | some x =>
      obtain ⟨ex, f, M1⟩ := x
      rw [h1] at h
      refine ⟨n, ex, f, M1, h1, ?_⟩
      cases ex with
      | exit i => cases h
      | norm =>
        simp only at h
        cases h2 : resL f M1 fn.res with
        | none => rw [h2] at h; cases h
        | some l =>
          rw [h2] at h
          injection h with h; injection h with h3 h4
          exact ⟨l, h2, h3, h4⟩
      | ret =>
        simp only at h
        cases h2 : resL f M1 fn.res with
        | none => rw [h2] at h; cases h
        | some l =>
          rw [h2] at h
          injection h with h; injection h with h3 h4
          exact ⟨l, h2, h3, h4⟩
theorem Step.of_kept {β : BM} {M : MH} {w w' : World} (h : Inv β M w) (k : Kept w w') : Step β β M M w w' := by
  obtain ⟨k1, k2, k3, k4, k5⟩ := k
  refine ⟨⟨h.fresh, fun id B e => (h.old id B e).imp (fun x => Nat.lt_of_lt_of_le x k4) (fun x => x), fun id o ho => h.keep (.refl β) (fun b hb => k5 b hb) ho, h.inj⟩, .refl β, k4, k1, k2, k3, fun b hb _ => k5 b hb, fun b hb => .inl hb, Nat.le_refl _, rfl, fun _ _ => rfl, fun _ _ h => h, fun _ _ => rfl, fun _ _ h _ => h⟩
theorem own_cell0 {β : BM} {M : MH} {w : World} (hi : Inv β M w) {id i sz : Nat} {c : T MV} (ho : M.get id = some (.cs false sz c)) {x : MV} (hx : cget c i = some x) : ∃ B v, β id = some B ∧ w.cell? ⟨B.blk, B.off + i, none⟩ = some v ∧ Den β x v := by
  obtain ⟨B, hB, hO⟩ := hi.obj id _ ho
  obtain ⟨arr, t, fr, h1, h2, h3, h4⟩ := hO
  obtain ⟨v, hv, hd⟩ := h4 i x hx
  exact ⟨B, v, hB, by simp [World.cell?, h1, hv], hd⟩
def Ftab (tab : List Int) : IFn := ⟨0, [.tmp (.k1 .d0)], .seq (.reg [⟨some (.k1 .d1), none, .ldN tab.length (.c (.p 0 0))⟩, ⟨some (.k1 .d2), none, .pu2 (.eqA tab.length false) (.t (.k1 .d1)) (.c (.ag (tab.map (MV.i .u8))))⟩, ⟨some (.k1 .d0), none, .mov (.c (.b true))⟩]) (.cond (.t (.k1 .d2)) .ret .bad)⟩
theorem eqAg_true : ∀ {a b : List MV}, eqAg a b = some true → a = b
  | [], [], _ => rfl
  | [], _ :: _, h => by cases h
  | x :: a, [], h => by cases x <;> cases h
  | x :: a, y :: b, h => by
    cases x <;> (try (cases h; done))
    cases y <;> (try (cases h; done))
    rename_i k n k' n'
    have h' : (bif k == k' then match eqAg a b with
      | some t => some (bif n == n' then t else false)
      | none => none
      else none) = some true := h
    cases hk : (k == k') with
    | false => rw [hk] at h'; cases h'
    | true =>
      rw [hk] at h'
      have hk : k = k' := by simpa using hk
      simp only [cond_true] at h'
      cases hq : eqAg a b with
      | none => rw [hq] at h'; cases h'
      | some t =>
        rw [hq] at h'
        injection h' with h'
        cases hn : (n == n') with
        | false => rw [hn] at h'; cases h'
        | true =>
          rw [hn] at h'
          have h' : t = true := h'
          subst h'
          have hn : n = n' := by simpa using hn
          rw [eqAg_true hq, hk, hn]
theorem Wp_bad {fns : Nat → Option IFn} {f : Fr} {M : MH} {Q : Post} (h : Wp fns .bad f M Q) : False := by
  obtain ⟨n, ex, f', M', h1, _⟩ := h
  cases n with
  | zero => rw [run_zero] at h1; cases h1
  | succ n => rw [run_succ] at h1; cases h1
theorem sem_tab {tab : List Int} {g : Nat} {fn : Func} {c : Code} {q : Nat} (hg0 : gtab 0 = some (0, q)) (h1 : P.funcs[g]? = some fn) (h2 : (fn.name == "runtime.NumGoroutine") = false) (h3 : fn.body = some c) (h : ∀ w : World, (∀ i, i < tab.length → w.cell? ⟨0, i, none⟩ = some (.int .u8 (tab.getD i 0))) → Calls P g #[] w fun e w' => e = .returned (.bool true) ∧ Kept w w') : SemF P g (Ftab tab) := by
  intro fns n hg _ args M M' m hc
  refine ⟨⟨fn, c, h1, h2, h3⟩, fun β w vs hgl hi hd => ?_⟩
  obtain ⟨ha, hW⟩ := callF_inv hg hc
  have ha : args = [] := List.length_eq_zero_iff.1 (Nat.le_zero.1 ha)
  subst ha
  cases hd.inv0
  have hW : Wp fns (.seq (.reg [⟨some (.k1 .d1), none, .ldN tab.length (.c (.p 0 0))⟩, ⟨some (.k1 .d2), none, .pu2 (.eqA tab.length false) (.t (.k1 .d1)) (.c (.ag (tab.map (MV.i .u8))))⟩, ⟨some (.k1 .d0), none, .mov (.c (.b true))⟩]) (.cond (.t (.k1 .d2)) .ret .bad)) (argsF [] 0 .lf) M (retQ (Ftab tab) fun m' M3 => m' = m ∧ M3 = M') := hW
  simp only [Wp_seq_reg, Wl_op_iff, ev_ldN, ldN_w, ev_c] at hW
  obtain ⟨⟨l, M1⟩, e1, hW⟩ := hW
  cases ho : M.get 0 with
  | none => rw [ho] at e1; cases e1
  | some o =>
    rw [ho] at e1
    cases o with
    | mp es ck => cases e1
    | cs r s t =>
      cases hn : getN t tab.length 0 with
      | none => simp only [ldNW, hn] at e1; cases e1
      | some cells =>
        simp only [ldNW, hn, Option.map_some, o1_some, Option.some.injEq, Prod.mk.injEq] at e1
        obtain ⟨rfl, rfl⟩ := e1
        simp only [Wl_op_iff, ev_pu2, setD_some, ev_set, if_true, ev_c] at hW
        obtain ⟨⟨x, M2⟩, e2, hW⟩ := hW
        have hcl := (getN_some hn).1
        rw [puM_eqA, hcl, beq_self_eq_true, cond_true] at e2
        cases hq : eqAg cells (tab.map (MV.i .u8)) with
        | none => rw [hq] at e2; cases e2
        | some t2 =>
          rw [hq] at e2
          simp only [cond_false, o1_some, Option.some.injEq, Prod.mk.injEq] at e2
          obtain ⟨rfl, rfl⟩ := e2
          simp only [Wl_op_iff, Wl_nil_iff, bindP_some, ev_mov, ev_c, setD_some, Wp_cond_iff, ev_set, Ky.k1.injEq, reduceCtorEq, if_true, if_false] at hW
          cases t2 with
          | false => rw [condP_f] at hW; exact (Wp_bad hW).elim
          | true =>
            rw [condP_t] at hW
            simp only [Wp_ret_iff, retQ_ret, show (Ftab tab).res = [.tmp (.k1 .d0)] from rfl, resL_1, res_set, if_true, bindP_some] at hW
            obtain ⟨rfl, rfl⟩ := hW
            have hcells := eqAg_true hq
            subst hcells
            refine (h w fun i hlt => ?_).mono ?_
            · have hx : cget t (0 + i) = some (.i .u8 tab[i]) := (getN_some hn).2 i _ (by simp [hlt])
              have hβ : β 0 = some ⟨0, 0, q⟩ := hgl 0 0 q hg0
              have : ∃ v, w.cell? ⟨0, 0 + (0 + i), none⟩ = some v ∧ Den β (.i .u8 tab[i]) v := by
                cases r with
                | true =>
                  obtain ⟨B, e, hk⟩ := hi.obj 0 _ ho
                  rw [hβ] at e
                  injection e with e
                  subst e
                  exact hk _ _ hx
                | false =>
                  obtain ⟨B, v, e, hk, hd⟩ := own_cell0 hi ho hx
                  rw [hβ] at e
                  injection e with e
                  subst e
                  exact ⟨v, hk, hd⟩
              obtain ⟨v, g1, g2⟩ := this
              cases g2
              rw [Nat.zero_add, Nat.zero_add] at g1
              rw [g1, List.getD_eq_getElem?_getD, List.getElem?_eq_getElem hlt]
              rfl
            · rintro e w' ⟨rfl, hk⟩
              exact ⟨_, β, rfl, .b true, Step.of_kept hi hk⟩
noncomputable def Mtab (tab : List Int) : MH := ⟨T.set (path 0) (some (.cs true 1 (ofL (tab.map (MV.i .u8)) 0))) .lf, 1, 0⟩
def Btab (q : Nat) : BM := fun id => if id = 0 then some ⟨0, 0, q⟩ else none
theorem Mtab_get (tab : List Int) (id : Nat) : (Mtab tab).get id = if id = 0 then some (.cs true 1 (ofL (tab.map (MV.i .u8)) 0)) else none := by
  unfold Mtab MH.get
  simp only
  rw [T.get_set, T.get_lf]
  by_cases h : id = 0
  · subst h; rw [if_pos rfl, if_pos rfl]
  · rw [if_neg h, if_neg fun e => h (path_inj e).symm]
theorem opened_tab {tab : List Int} {q : Nat} (hg : ∀ g id cap, gtab g = some (id, cap) → g = 0 ∧ id = 0 ∧ cap = q) (hn : 0 < tab.length) (h : ∀ i, i < tab.length → w.cell? ⟨0, i, none⟩ = some (.int .u8 (tab.getD i 0))) : Opened P w (Btab q) (Mtab tab) := by
  refine ⟨⟨fun id hid => ?_, fun id B hB => ?_, fun id o ho => ?_, fun id id' o o' B B' ho _ hr => ?_⟩, fun g id cap e => ?_, fun id o ho => ?_, Nat.zero_le _, .inl (Nat.lt_of_le_of_lt (Nat.zero_le _) (World.block_lt_of_cell? w _ (h 0 hn)))⟩
  · have : (1 : Nat) ≤ id := hid
    unfold Btab; rw [if_neg (by omega)]
  · unfold Btab at hB
    split at hB
    · injection hB with hB
      subst hB
      exact .inl (World.block_lt_of_cell? w _ (h 0 hn))
    · cases hB
  · rw [Mtab_get] at ho
    split at ho
    · rename_i e
      subst e
      injection ho with ho
      subst ho
      refine ⟨⟨0, 0, q⟩, rfl, fun i x hx => ?_⟩
      rw [cget_ofL, if_pos (Nat.zero_le _), Nat.sub_zero, List.getElem?_map, Option.map_eq_some_iff] at hx
      obtain ⟨z, hz, rfl⟩ := hx
      have hi : i < tab.length := (List.getElem?_eq_some_iff.1 hz).1
      refine ⟨_, (by rw [Nat.zero_add]; exact h i hi), ?_⟩
      rw [List.getD_eq_getElem?_getD, hz]
      exact .i _ _
    · cases ho
  · rw [Mtab_get] at ho
    split at ho
    · injection ho with ho
      subst ho
      cases hr
    · cases ho
  · obtain ⟨rfl, rfl, rfl⟩ := hg g id cap e
    rfl
  · rw [Mtab_get] at ho
    split at ho
    · injection ho with ho
      subst ho
      rfl
    · cases ho
theorem eqAg_self (k : IntKind) : ∀ l : List Int, eqAg (l.map (MV.i k)) (l.map (MV.i k)) = some true
  | [] => rfl
  | z :: l => by
    rw [List.map_cons, eqAg_i, eqAg_self k l, beq_self_eq_true]
    rfl
theorem Cp_tab {fns : Nat → Option IFn} {g : Nat} {tab : List Int} {M : MH} (hg : fns g = some (Ftab tab)) (hx : Ext (Mtab tab) M) : Cp fns g [] M fun m M' => m = .b true ∧ M' = M := by
  have h0 : M.get 0 = some (.cs true 1 (ofL (tab.map (MV.i .u8)) 0)) := by rw [hx.old 0 (by show (0 : Nat) < 1; decide), Mtab_get, if_pos rfl]
  refine Cp_call hg (Nat.le_refl _) ?_
  show Wp fns (.seq (.reg [⟨some (.k1 .d1), none, .ldN tab.length (.c (.p 0 0))⟩, ⟨some (.k1 .d2), none, .pu2 (.eqA tab.length false) (.t (.k1 .d1)) (.c (.ag (tab.map (MV.i .u8))))⟩, ⟨some (.k1 .d0), none, .mov (.c (.b true))⟩]) (.cond (.t (.k1 .d2)) .ret .bad)) _ M _
  have hn : getN (ofL (tab.map (MV.i .u8)) 0) tab.length 0 = some (tab.map (MV.i .u8)) := by
    have := (at_ofL (tab.map (MV.i .u8))).getN
    rwa [List.length_map] at this
  simp only [Wp_seq_reg, Wl_op_iff, Wl_nil_iff, ev_ldN, ldN_w, ev_c, h0, ldNW_cs, hn, map_ag, o1_some, bindP_some, ev_pu2, setD_some, ev_set, if_true, puM_eqA, List.length_map, beq_self_eq_true, cond_true, cond_false, eqAg_self, ev_mov, Wp_cond_iff, Ky.k1.injEq, reduceCtorEq, if_false, condP_t, Wp_ret_iff, retQ_ret, show (Ftab tab).res = [.tmp (.k1 .d0)] from rfl, resL_1, res_set]
  exact ⟨rfl, trivial⟩
end Go.Proofs.YtpdcahaggacacaaDoor.Ev
namespace Go.Proofs.YtpdcahaggacacaaDoor
open Go Go.RowKit Kit Ev
def tabZ : List Int := [0, 1, 56, 2, 57, 49, 28, 3, 61, 58, 42, 50, 38, 29, 17, 4, 62, 47, 59, 36, 45, 43, 51, 22, 53, 39, 33, 30, 24, 18, 12, 5, 63, 55, 48, 27, 60, 41, 37, 16, 46, 35, 44, 21, 52, 32, 23, 11, 54, 26, 40, 15, 34, 20, 31, 10, 25, 14, 19, 9, 13, 8, 7, 6]
def Tab (w : World) : Prop := ∀ i, i < tabZ.length → w.cell? ⟨0, i, none⟩ = some (.int .u8 (tabZ.getD i 0))
end Go.Proofs.YtpdcahaggacacaaDoor
set_option linter.unusedSimpArgs false
namespace Go.Proofs.YtpdcahaggacacaaDoor
open Go Go.RowKit Kit Ev
set_option maxRecDepth 1000000
noncomputable def gaveB (b : Bool) : Option (MV × MH) → Bool
  | some (.b c, _) => c == b
  | _ => false
theorem gave_some {b : Bool} {r : Option (MV × MH)} (h : gaveB b r = true) : ∃ M', r = some (.b b, M') := by
  unfold gaveB at h
  split at h
  · rename_i c M'
    simp only [beq_iff_eq] at h
    subst h
    exact ⟨M', rfl⟩
  · cases h
theorem opened0 {w : World} (h : Tab w) : Opened Tryd.prog w (Btab 64) (Mtab tabZ) := opened_tab (fun g id cap e => by
  unfold gtab at e
  split at e
  · rename_i hg
    injection e with e
    injection e with e1 e2
    exact ⟨hg, e1.symm, e2.symm⟩
  · cases e) (by decide) h
theorem mixed : Tryd.prog.follows .mixedOrders = true := by kernel_rfl
theorem alive_of {g : Nat} (hr : gaveB true (callF fns 300 g [] (Mtab tabZ)) = true) (w : World) (ht : Tab w) : Calls Tryd.prog g #[] w fun e w' => e = .returned (.bool true) ∧ Kept w w' := by
  obtain ⟨M', h⟩ := gave_some hr
  have hO := opened0 ht
  refine (calls_run_at (P := Tryd.prog) mixed fns_ok 300 g [] [] (.b true) (Btab 64) (Mtab tabZ) M' w hO.glob hO.inv hO.ro h (DenL.nil _)).mono ?_
  rintro e w' ⟨v, β', rfl, hd, hk⟩
  cases hd
  exact ⟨rfl, hk⟩
theorem run6 : gaveB true (callF fns 300 6 [] (Mtab tabZ)) = true := by kernel_rfl
theorem sem_alive6 : SemF Tryd.prog 6 (Ftab tabZ) := by
  obtain ⟨c, hc⟩ : ∃ c, Tryd.f6.body = some c := Option.isSome_iff_exists.1 (by kernel_rfl)
  exact sem_tab (q := 64) rfl Tryd.func6 (by kernel_rfl) hc (alive_of run6)
end Go.Proofs.YtpdcahaggacacaaDoor
set_option linter.unusedSimpArgs false
namespace Go.Proofs.YtpdcahaggacacaaDoor
open Go Go.RowKit Kit Ev
set_option maxRecDepth 1000000
theorem row_r0 : gaveB true (callF Rr.fns 3000 5 [.i .i64 0] (Mtab tabZ)) = true := by kernel_rfl
theorem row_r1 : gaveB true (callF Rr.fns 3000 5 [.i .i64 1] (Mtab tabZ)) = true := by kernel_rfl
theorem row_r2 : gaveB true (callF Rr.fns 3000 5 [.i .i64 2] (Mtab tabZ)) = true := by kernel_rfl
theorem row_r3 : gaveB true (callF Rr.fns 3000 5 [.i .i64 3] (Mtab tabZ)) = true := by kernel_rfl
theorem row_r4 : gaveB true (callF Rr.fns 3000 5 [.i .i64 4] (Mtab tabZ)) = true := by kernel_rfl
theorem row_r5 : gaveB true (callF Rr.fns 3000 5 [.i .i64 5] (Mtab tabZ)) = true := by kernel_rfl
theorem row_r6 : gaveB true (callF Rr.fns 3000 5 [.i .i64 6] (Mtab tabZ)) = true := by kernel_rfl
theorem row_r7 : gaveB true (callF Rr.fns 3000 5 [.i .i64 7] (Mtab tabZ)) = true := by kernel_rfl
theorem row_r8 : gaveB true (callF Rr.fns 3000 5 [.i .i64 8] (Mtab tabZ)) = true := by kernel_rfl
end Go.Proofs.YtpdcahaggacacaaDoor
set_option linter.unusedSimpArgs false
set_option linter.unusedVariables false
namespace Go.Proofs.YtpdcahaggacacaaDoor.Ev
open Go
theorem At.set {c : T MV} {off : Nat} {l : List MV} (h : At c off l) (j : Nat) (x : MV) (hj : j < l.length) : At (setN [x] (off + j) c) off (l.set j x) := fun i y hi => by
  rw [cget_setN]
  rw [List.getElem?_set] at hi
  by_cases e : j = i
  · subst e
    rw [if_pos rfl, if_pos hj] at hi
    rw [if_pos ⟨Nat.le_refl _, by simp⟩, Nat.sub_self]
    exact hi
  · rw [if_neg e] at hi
    rw [if_neg (by simp only [List.length_singleton]; omega)]
    exact h i y hi
theorem At.set' {c : T MV} {off k : Nat} {l : List MV} (h : At c off l) (j : Nat) (x : MV) (hj : j < l.length) (hk : k = off + j) : At (setN [x] k c) off (l.set j x) := by subst hk; exact h.set j x hj
theorem Sized.set {sz : Nat} {es : List (List MV)} (h : Sized sz es) (i : Nat) {e : List MV} (he : e.length = sz) : Sized sz (es.set i e) := fun x hx => by
  rcases List.mem_or_eq_of_mem_set hx with h1 | h1
  · exact h x h1
  · rw [h1]; exact he
theorem has_at {c : T MV} {off : Nat} {l : List MV} (h : At c off l) {k n : Nat} (hk : off ≤ k) (hn : k + n ≤ off + l.length) : hasB c n k = true := hasB_of fun j hj => by
  rw [show k + j = off + (k - off + j) from by omega, h (k - off + j) _ (List.getElem?_eq_getElem (by omega))]
  rfl
theorem OwnRow.keep {lo : Nat} {M M' : MH} {sz : Nat} {v : MV} {es : List (List MV)} (h : OwnRow lo M sz v es) (hn : M.n ≤ M'.n) (k : ∀ a b n d, v = .sl a b n d → M'.get a = M.get a) : OwnRow lo M' sz v es := by
  obtain ⟨hs, h | ⟨id, c, h1, h2, h3, h4, h5⟩⟩ := h
  · exact ⟨hs, .inl h⟩
  · exact ⟨hs, .inr ⟨id, c, h1, (k _ _ _ _ h1).trans h2, h3, Nat.lt_of_lt_of_le h4 hn, h5⟩⟩
end Go.Proofs.YtpdcahaggacacaaDoor.Ev
set_option linter.unusedSimpArgs false
set_option linter.unusedVariables false
namespace Go.Proofs.YtpdcahaggacacaaDoor.Ev
open Go
def ints (l : List Int) : List (List MV) := l.map fun z => [.i .i64 z]
theorem ints_len (l : List Int) : (ints l).length = l.length := by unfold ints; rw [List.length_map]
theorem ints_at {l : List Int} {i : Nat} {z : Int} (h : l[i]? = some z) : (ints l)[i]? = some [.i .i64 z] := by unfold ints; rw [List.getElem?_map, h]; rfl
def IntRow (M : MH) (v : MV) (l : List Int) : Prop := RowAt M 1 v (ints l)
theorem IntRow.ext {M M' : MH} {v : MV} {l : List Int} (h : IntRow M v l) (k : Ext M M') : IntRow M' v l := RowAt.ext h k
theorem IntRow.sl {M : MH} {v : MV} {l : List Int} (h : IntRow M v l) : isSl v = true ∧ slen v = l.length := by
  obtain ⟨a, b⟩ := RowAt.sl h
  exact ⟨a, b.trans (ints_len l)⟩
theorem IntRow.read {M : MH} {v : MV} {l : List Int} (h : IntRow M v l) {i : Nat} {z : Int} (hz : l[i]? = some z) : ∃ ro s c, M.get (sid v) = some (.cs ro s c) ∧ sid v < M.n ∧ cget c (soff v + i * 1) = some (.i .i64 z) := by
  obtain ⟨ro, s, c, h1, h2, h3⟩ := RowAt.read h (ints_at hz)
  exact ⟨ro, s, c, h1, h2, h3 0 _ rfl⟩
structure Gr where
  names : Int
  kinds : Int
  start : Int
  rules : List (Int × List Int × Int)
  forbid : List (Int × Int × Int)
  rc : List Int
  kc : List Int
def RuleAt (M : MH) (e : List MV) (r : Int × List Int × Int) : Prop := ∃ v, e = [.i .i64 r.1, v, .i .i64 r.2.2] ∧ IntRow M v r.2.1
theorem RuleAt.ext {M M' : MH} {e : List MV} {r : Int × List Int × Int} (h : RuleAt M e r) (k : Ext M M') : RuleAt M' e r := let ⟨v, h1, h2⟩ := h; ⟨v, h1, h2.ext k⟩
def trip (f : Int × Int × Int) : List MV := [.i .i64 f.1, .i .i64 f.2.1, .i .i64 f.2.2]
structure RulesAt (M : MH) (v : MV) (es : List (List MV)) (l : List (Int × List Int × Int)) : Prop where
  row : RowAt M 3 v es
  len : es.length = l.length
  at_ : ∀ (i : Nat) e r, es[i]? = some e → l[i]? = some r → RuleAt M e r
theorem RulesAt.ext {M M' : MH} {v : MV} {es : List (List MV)} {l : List (Int × List Int × Int)} (h : RulesAt M v es l) (k : Ext M M') : RulesAt M' v es l := ⟨h.row.ext k, h.len, fun i e r h1 h2 => (h.at_ i e r h1 h2).ext k⟩
theorem RulesAt.get {M : MH} {v : MV} {es : List (List MV)} {l : List (Int × List Int × Int)} (h : RulesAt M v es l) {i : Nat} {r : Int × List Int × Int} (hr : l[i]? = some r) : ∃ uu, es[i]? = some [.i .i64 r.1, uu, .i .i64 r.2.2] ∧ IntRow M uu r.2.1 := by
  have hi := (List.getElem?_eq_some_iff.1 hr).1
  have hi' : i < es.length := by rw [h.len]; exact hi
  have he : es[i]? = some es[i] := List.getElem?_eq_getElem hi'
  obtain ⟨uu, h1, h2⟩ := h.at_ i _ r he hr
  exact ⟨uu, by rw [he, h1], h2⟩
def Wf64 (z : Int) : Prop := -9223372036854775808 ≤ z ∧ z ≤ 9223372036854775807
structure GrWf (g : Gr) : Prop where
  names : Wf64 g.names
  kinds : Wf64 g.kinds
  start : Wf64 g.start
  rules : ∀ r ∈ g.rules, Wf64 r.1 ∧ (∀ z ∈ r.2.1, Wf64 z) ∧ Wf64 r.2.2 ∧ r.2.1.length ≤ 9223372036854775807
  forbid : ∀ f ∈ g.forbid, Wf64 f.1 ∧ Wf64 f.2.1 ∧ Wf64 f.2.2
  rc : ∀ z ∈ g.rc, Wf64 z
  kc : ∀ z ∈ g.kc, Wf64 z
  lens : g.rules.length ≤ 9223372036854775807 ∧ g.forbid.length ≤ 9223372036854775807 ∧ g.rc.length ≤ 9223372036854775807 ∧ g.kc.length ≤ 9223372036854775807
def TbAt (M : MH) : Prop := M.get 0 = some (.cs true 1 (ofL (tabZ.map (MV.i .u8)) 0)) ∧ 0 < M.n
theorem TbAt.ext {M M' : MH} (h : TbAt M) (k : Ext M M') : TbAt M' := ⟨(k.old _ h.2).trans h.1, Nat.lt_of_lt_of_le h.2 k.n⟩
theorem TbAt.of {M : MH} (h : Ext (Mtab tabZ) M) : TbAt M := ⟨by rw [h.old 0 (by show (0 : Nat) < 1; decide), Mtab_get, if_pos rfl], Nat.lt_of_lt_of_le (by show (0 : Nat) < 1; decide) h.n⟩
structure GrAt (M : MH) (vr vf vc vk : MV) (es : List (List MV)) (g : Gr) : Prop where
  rules : RulesAt M vr es g.rules
  forbid : RowAt M 3 vf (g.forbid.map trip)
  rc : IntRow M vc g.rc
  kc : IntRow M vk g.kc
  wf : GrWf g
  tb : TbAt M
theorem GrAt.ext {M M' : MH} {vr vf vc vk : MV} {es : List (List MV)} {g : Gr} (h : GrAt M vr vf vc vk es g) (k : Ext M M') : GrAt M' vr vf vc vk es g := ⟨h.rules.ext k, h.forbid.ext k, h.rc.ext k, h.kc.ext k, h.wf, h.tb.ext k⟩
def gcs (g : Gr) (vr vf vc vk : MV) : List MV := [.i .i64 g.names, .i .i64 g.kinds, .i .i64 g.start, vr, vf, vc, vk]
def symB (g : Gr) (s : Int) : Bool := if s < 0 then decide (-1 - s < g.kinds) else decide (s < g.names)
def clsB (l : List Int) : Bool := l.all fun z => decide (0 ≤ z) && decide (z ≤ 100)
def okR (g : Gr) (r : Int × List Int × Int) : Bool := (decide (0 ≤ r.1) && decide (r.1 < g.names)) && r.2.1.all (symB g)
def ruleE (g : Gr) (r : Int × List Int × Int) : Option Int :=
  if okR g r = false then some 6 else if (8 : Int) < (r.2.1.length : Int) then some 3 else if r.2.2 < -1000 ∨ 1000 < r.2.2 then some 1 else none
def findE {α : Type} (f : α → Option Int) : List α → Nat → Option (Nat × Int)
  | [], _ => none
  | r :: l, i => match f r with
    | some e => some (i, e)
    | none => findE f l (i + 1)
def badF (g : Gr) (f : Int × Int × Int) : Bool :=
  if f.1 < 0 ∨ (g.rules.length : Int) ≤ f.1 ∨ f.2.2 < 0 ∨ (g.rules.length : Int) ≤ f.2.2 then true
  else match g.rules[f.1.toNat]?, g.rules[f.2.2.toNat]? with
    | some a, some b => if f.2.1 < 0 ∨ (a.2.1.length : Int) ≤ f.2.1 then true else match a.2.1[f.2.1.toNat]? with
      | some s => decide (s ≠ b.1)
      | none => true
    | _, _ => true
def headE (g : Gr) : Option Int :=
  if g.names < 1 ∨ 40 < g.names ∨ g.kinds < 0 ∨ 40 < g.kinds ∨ (60 : Int) < (g.rules.length : Int) ∨ (200 : Int) < (g.forbid.length : Int) then some 3
  else if g.start < 0 ∨ g.names ≤ g.start then some 6
  else if (g.rules.length : Int) < (g.rc.length : Int) ∨ g.kinds < (g.kc.length : Int) ∨ clsB g.rc = false ∨ clsB g.kc = false then some 1
  else none
def formP (g : Gr) : Int × Int := match headE g with
  | some e => (-1, e)
  | none => match findE (ruleE g) g.rules 0 with
    | some (i, e) => (i, e)
    | none => if g.forbid.any (badF g) = true then (-1, 6) else (-1, 0)
end Go.Proofs.YtpdcahaggacacaaDoor.Ev
set_option linter.unusedSimpArgs false
set_option linter.unusedVariables false
namespace Go.Proofs.YtpdcahaggacacaaDoor.Ev
open Go
variable {M : MH} {f : Fr} {c : CallM}
theorem zrow_rep (x : MV) : ∀ n, zrow [x] n = List.replicate n x
  | 0 => rfl
  | n + 1 => by rw [zrow_succ, zrow_rep x n]; rfl
def BoolsAt (M : MH) (id : Nat) (l : List Bool) : Prop := ∃ t, M.get id = some (.cs false 1 t) ∧ At t 0 (l.map MV.b)
theorem BoolsAt.new (n : Nat) : BoolsAt (M.push (.cs false 1 (ofL (zrow [.b false] n) 0))) M.n (List.replicate n false) := ⟨_, push_new _, by rw [List.map_replicate, ← zrow_rep]; exact at_ofL _⟩
theorem BoolsAt.same {M' : MH} {id : Nat} {l : List Bool} (h : BoolsAt M id l) (e : M'.get id = M.get id) : BoolsAt M' id l := let ⟨t, h1, h2⟩ := h; ⟨t, e.trans h1, h2⟩
theorem BoolsAt.read {id : Nat} {l : List Bool} (h : BoolsAt M id l) : ∃ t, M.get id = some (.cs false 1 t) ∧ (∀ i b, l[i]? = some b → cget t (i * 1) = some (.b b)) ∧ (∀ i, i < l.length → hasB t 1 (i * 1) = true) ∧ ∀ i x, i < l.length → At (setN [.b x] (i * 1) t) 0 ((l.set i x).map MV.b) := by
  obtain ⟨t, h1, h2⟩ := h
  refine ⟨t, h1, fun i b hb => ?_, fun i hi => has_at h2 (Nat.zero_le _) (by rw [List.length_map]; omega), fun i x hi => ?_⟩
  · rw [Nat.mul_one]
    have := h2 i _ (by rw [List.getElem?_map, hb]; rfl)
    rwa [Nat.zero_add] at this
  · rw [List.map_set]
    exact h2.set' i _ (by rw [List.length_map]; exact hi) (by omega)
theorem flat_bools : ∀ l : List Bool, (l.map fun b => [MV.b b]).flatten = l.map MV.b
  | [] => rfl
  | b :: l => by rw [List.map_cons, List.flatten_cons, flat_bools l]; rfl
theorem BoolsAt.row {id : Nat} {l : List Bool} (h : BoolsAt M id l) (hid : id < M.n) : RowAt M 1 (.sl id 0 l.length 0) (l.map fun b => [.b b]) := by
  obtain ⟨t, h1, h2⟩ := h
  refine ⟨fun e he => ?_, .inr ⟨id, 0, 0, false, 1, t, by rw [List.length_map], h1, hid, ?_⟩⟩
  · obtain ⟨b, _, rfl⟩ := List.mem_map.1 he; rfl
  · rw [flat_bools]; exact h2
end Go.Proofs.YtpdcahaggacacaaDoor.Ev
set_option linter.unusedSimpArgs false
set_option linter.unusedVariables false
namespace Go.Proofs.YtpdcahaggacacaaDoor.Ev
open Go
theorem findE_none {α : Type} {f : α → Option Int} : ∀ {l : List α} {i : Nat}, findE f l i = none → ∀ r ∈ l, f r = none
  | [], i, h, r, hr => by cases hr
  | a :: l, i, h, r, hr => by
    unfold findE at h
    cases ha : f a with
    | some e => rw [ha] at h; cases h
    | none =>
      rw [ha] at h
      rcases List.mem_cons.1 hr with rfl | hr
      · exact ha
      · exact findE_none h r hr
structure GrOk (g : Gr) : Prop where
  n1 : 1 ≤ g.names
  n2 : g.names ≤ 40
  k1 : 0 ≤ g.kinds
  k2 : g.kinds ≤ 40
  rl : g.rules.length ≤ 60
  s1 : 0 ≤ g.start
  s2 : g.start < g.names
  left : ∀ r ∈ g.rules, 0 ≤ r.1 ∧ r.1 < g.names
  sym : ∀ r ∈ g.rules, ∀ s ∈ r.2.1, symB g s = true
  len : ∀ r ∈ g.rules, r.2.1.length ≤ 8
theorem findE_pos {g : Gr} : ∀ {l : List (Int × List Int × Int)} {i : Nat} {x : Nat × Int}, findE (ruleE g) l i = some x → x.2 ≠ 0
  | [], i, x, h => by cases h
  | a :: l, i, x, h => by
    unfold findE at h
    cases ha : ruleE g a with
    | some e =>
      rw [ha] at h
      injection h with h
      subst h
      unfold ruleE at ha
      intro e0
      simp only at e0
      subst e0
      split at ha
      · cases ha
      · split at ha
        · cases ha
        · split at ha
          · cases ha
          · cases ha
    | none => rw [ha] at h; exact findE_pos h
theorem form_ok {g : Gr} (h : (formP g).2 = 0) : GrOk g := by
  unfold formP at h
  cases hh : headE g with
  | some e =>
    rw [hh] at h
    simp only at h
    subst h
    unfold headE at hh
    split at hh
    · cases hh
    · split at hh
      · cases hh
      · split at hh <;> cases hh
  | none =>
    rw [hh] at h
    simp only at h
    cases hf : findE (ruleE g) g.rules 0 with
    | some x =>
      rw [hf] at h
      exact absurd h (findE_pos hf)
    | none =>
      have hall := findE_none hf
      unfold headE at hh
      split at hh
      · cases hh
      rename_i c1
      split at hh
      · cases hh
      rename_i c2
      have hr : ∀ r ∈ g.rules, okR g r = true ∧ r.2.1.length ≤ 8 := fun r hr => by
        have := hall r hr
        unfold ruleE at this
        split at this
        · cases this
        rename_i d1
        split at this
        · cases this
        rename_i d2
        exact ⟨by simpa using d1, by omega⟩
      refine ⟨by omega, by omega, by omega, by omega, by omega, by omega, by omega, fun r h => ?_, fun r h s hs => ?_, fun r h => (hr r h).2⟩
      · have := (hr r h).1
        unfold okR at this
        simp only [Bool.and_eq_true, decide_eq_true_eq] at this
        exact this.1
      · have := (hr r h).1
        unfold okR at this
        simp only [Bool.and_eq_true] at this
        exact List.all_eq_true.1 this.2 s hs
inductive Nul (g : Gr) : Nat → Prop
  | mk (r : Int × List Int × Int) (hr : r ∈ g.rules) (h0 : ∀ s ∈ r.2.1, 0 ≤ s) (h : ∀ s ∈ r.2.1, Nul g s.toNat) : Nul g r.1.toNat
def oneN (l : List Bool) (s : Int) : Bool := decide (0 ≤ s) && l.getD s.toNat false
def allN (l : List Bool) (r : List Int) : Bool := r.all (oneN l)
def NulSound (g : Gr) (l : List Bool) : Prop := ∀ a, l[a]? = some true → Nul g a
theorem NulSound.set {g : Gr} {l : List Bool} (h : NulSound g l) {r : Int × List Int × Int} (hr : r ∈ g.rules) (ha : allN l r.2.1 = true) : NulSound g (l.set r.1.toNat true) := fun a e => by
  rw [List.getElem?_set] at e
  split at e
  · rename_i e1
    subst e1
    have hall := List.all_eq_true.1 ha
    unfold oneN at hall
    refine .mk r hr (fun s hs => ?_) fun s hs => ?_
    · have := hall s hs
      simp only [Bool.and_eq_true, decide_eq_true_eq] at this
      exact this.1
    · have := hall s hs
      simp only [Bool.and_eq_true, decide_eq_true_eq] at this
      refine h _ ?_
      have h2 := this.2
      rw [List.getD_eq_getElem?_getD] at h2
      cases hx : l[s.toNat]? with
      | none => rw [hx] at h2; cases h2
      | some b => rw [hx] at h2; simp only [Option.getD_some] at h2; rw [h2]
  · exact h a e
end Go.Proofs.YtpdcahaggacacaaDoor.Ev
set_option linter.unusedSimpArgs false
set_option linter.unusedVariables false
namespace Go.Proofs.YtpdcahaggacacaaDoor.Ev
open Go
def rightN (g : Gr) (q : Nat) : Option (List Int) := if q = 0 then some [g.start] else (g.rules[q - 1]?).map fun r => r.2.1
def behN (g : Gr) (n : Nat) : Option Int := (rightN g (n / 9)).bind fun l => l[n % 9]?
def IsN (g : Gr) (n : Nat) : Prop := ∃ l, rightN g (n / 9) = some l ∧ n % 9 ≤ l.length
theorem right_len {g : Gr} (h : GrOk g) {q : Nat} {l : List Int} (e : rightN g q = some l) : l.length ≤ 8 ∧ q ≤ g.rules.length := by
  unfold rightN at e
  split at e
  · injection e with e; subst e; exact ⟨by simp, by omega⟩
  · cases hr : g.rules[q - 1]? with
    | none => rw [hr] at e; cases e
    | some r =>
      rw [hr] at e
      injection e with e
      subst e
      have := (List.getElem?_eq_some_iff.1 hr).1
      exact ⟨h.len r (List.mem_of_getElem? hr), by omega⟩
theorem IsN.lt {g : Gr} (h : GrOk g) (h60 : g.rules.length ≤ 60) {n : Nat} (k : IsN g n) : n < 549 := by
  obtain ⟨l, e, hl⟩ := k
  have := (right_len h e).2
  omega
inductive InC (g : Gr) (S : Nat → Prop) : Nat → Prop where
  | base {n : Nat} (h : S n) : InC g S n
  | step {n i : Nat} {s : Int} {r : Int × List Int × Int} (h : InC g S n) (e : behN g n = some s) (k : g.rules[i]? = some r) (l : r.1 = s) : InC g S ((i + 1) * 9)
theorem begin_is {g : Gr} {i : Nat} {r : Int × List Int × Int} (k : g.rules[i]? = some r) : IsN g ((i + 1) * 9) := by
  refine ⟨r.2.1, ?_, by omega⟩
  unfold rightN
  rw [if_neg (by omega), show (i + 1) * 9 / 9 - 1 = i from by omega, k]
  rfl
theorem InC.is {g : Gr} {S : Nat → Prop} (hS : ∀ n, S n → IsN g n) {n : Nat} (h : InC g S n) : IsN g n := by
  cases h with
  | base h => exact hS _ h
  | step h e k l => exact begin_is k
def Ris (l : List Nat) : Prop := l.Pairwise (· < ·)
theorem ris_ext : ∀ {a b : List Nat}, Ris a → Ris b → (∀ n, n ∈ a ↔ n ∈ b) → a = b
  | [], [], _, _, _ => rfl
  | [], y :: b, _, _, h => by have := (h y).2 List.mem_cons_self; simp at this
  | x :: a, [], _, _, h => by have := (h x).1 List.mem_cons_self; simp at this
  | x :: a, y :: b, ha, hb, h => by
    unfold Ris at ha hb
    rw [List.pairwise_cons] at ha hb
    have hx := (h x).1 List.mem_cons_self
    have hy := (h y).2 List.mem_cons_self
    have e : x = y := by
      rcases List.mem_cons.1 hx with e | e
      · exact e
      · rcases List.mem_cons.1 hy with e' | e'
        · exact e'.symm
        · have := hb.1 x e; have := ha.1 y e'; omega
    subst e
    rw [ris_ext ha.2 hb.2 fun n => ?_]
    have hn := h n
    simp only [List.mem_cons] at hn
    constructor
    · intro hm
      have := ha.1 n hm
      rcases hn.1 (.inr hm) with e | e
      · omega
      · exact e
    · intro hm
      have := hb.1 n hm
      rcases hn.2 (.inr hm) with e | e
      · omega
      · exact e
def bitsOf (N n : Nat) : List Nat := (List.range n).filter fun i => N.testBit i
def bsOf (l : List Nat) : Nat := l.foldl (fun w n => w ||| 2 ^ n) 0
structure ClsN (g : Gr) (S : Nat → Prop) (W : Nat) : Prop where
  lt : ∀ i, W.testBit i = true → i < 549
  bit : ∀ n, W.testBit n = true ↔ InC g S n
theorem ClsN.ext {g : Gr} {S : Nat → Prop} {W W' : Nat} (h : ClsN g S W) (h' : ClsN g S W') : W = W' := Nat.eq_of_testBit_eq fun i => by
  rw [Bool.eq_iff_iff, h.bit, h'.bit]
noncomputable def clsN (g : Gr) (S : Nat → Prop) : Nat := by
  classical
  exact bsOf ((List.range 549).filter fun n => decide (InC g S n))
def nextL (g : Gr) (c : List Nat) (s : Int) : List Nat := (c.filter fun n => decide (behN g n = some s)).map (· + 1)
def nextN (g : Gr) (c : List Nat) (s : Int) : Nat := bsOf (nextL g c s)
structure Acc where
  syms : List Int
  to : List Nat
  ks : List Nat
def stepS (g : Gr) (c : List Nat) (a : Acc) (s : Int) : Acc := if nextN g c s = 0 then a else ⟨a.syms ++ [s], a.to ++ [a.ks.idxOf (nextN g c s)], if nextN g c s ∈ a.ks then a.ks else a.ks ++ [nextN g c s]⟩
def symsA (g : Gr) : List Int := (List.range (g.kinds.toNat + g.names.toNat)).map fun i : Nat => (i : Int) - g.kinds
def leadP (g : Gr) (c ks : List Nat) : Acc := (symsA g).foldl (stepS g c) ⟨[], [], ks⟩
theorem step_pre (g : Gr) (c : List Nat) (a : Acc) (s : Int) : a.ks <+: (stepS g c a s).ks := by
  unfold stepS
  split
  · exact List.prefix_refl _
  · show a.ks <+: (if _ then _ else _)
    split
    · exact List.prefix_refl _
    · exact List.prefix_append _ _
theorem steps_pre (g : Gr) (c : List Nat) : ∀ (l : List Int) (a : Acc), a.ks <+: (l.foldl (stepS g c) a).ks
  | [], a => List.prefix_refl _
  | s :: l, a => (step_pre g c a s).trans (steps_pre g c l _)
abbrev StR := List Int × List Nat
noncomputable def stN (g : Gr) : Nat → List StR × List Nat
  | 0 => ([], [1])
  | n + 1 => match (stN g n).2[n]? with
    | none => stN g n
    | some k =>
      let a := leadP g (bitsOf (clsN g fun i => k.testBit i = true) 576) (stN g n).2
      ((stN g n).1 ++ [(a.syms, a.to)], a.ks)
theorem stN_succ {g : Gr} {n k : Nat} (h : (stN g n).2[n]? = some k) : stN g (n + 1) = ((stN g n).1 ++ [((leadP g (bitsOf (clsN g fun i => k.testBit i = true) 576) (stN g n).2).syms, (leadP g (bitsOf (clsN g fun i => k.testBit i = true) 576) (stN g n).2).to)], (leadP g (bitsOf (clsN g fun i => k.testBit i = true) 576) (stN g n).2).ks) := by
  rw [stN, h]
theorem stN_stop {g : Gr} {n : Nat} (h : (stN g n).2[n]? = none) : stN g (n + 1) = stN g n := by rw [stN, h]
theorem stN_pre (g : Gr) (n : Nat) : (stN g n).2 <+: (stN g (n + 1)).2 := by
  cases h : (stN g n).2[n]? with
  | none => rw [stN_stop h]; exact List.prefix_refl _
  | some k => rw [stN_succ h]; exact steps_pre g _ _ ⟨[], [], (stN g n).2⟩
theorem stN_mono (g : Gr) {n m : Nat} (h : n ≤ m) : (stN g n).2 <+: (stN g m).2 := by
  induction m with
  | zero => rw [Nat.le_zero.1 h]; exact List.prefix_refl _
  | succ m ih =>
    rcases Nat.lt_or_ge n (m + 1) with h' | h'
    · exact (ih (by omega)).trans (stN_pre g m)
    · rw [show n = m + 1 from by omega]; exact List.prefix_refl _
theorem stN_stays {g : Gr} {n : Nat} (h : (stN g n).2.length ≤ n) : ∀ d, stN g (n + d) = stN g n
  | 0 => rfl
  | d + 1 => by
    have ih := stN_stays h d
    rw [← Nat.add_assoc, stN_stop, ih]
    rw [ih]
    exact List.getElem?_eq_none (by omega)
inductive StRes (g : Gr) : Option (List StR × List Nat) → Prop where
  | long {n : Nat} (h : 2000 < (stN g n).2.length) : StRes g none
  | all {n : Nat} (h : (stN g n).2.length = n) (k : n ≤ 2000) : StRes g (some (stN g n))
theorem StRes.ext {g : Gr} {a b : Option (List StR × List Nat)} (ha : StRes g a) (hb : StRes g b) : a = b := by
  have le : ∀ {n m : Nat}, (stN g n).2.length = n → (stN g m).2.length ≤ n := fun {n m} h => by
    rcases Nat.le_total m n with hm | hm
    · have := (stN_mono g hm).length_le; omega
    · rw [show m = n + (m - n) from by omega, stN_stays (by omega)]; omega
  cases ha with
  | @long n h =>
    cases hb with
    | long _ => rfl
    | @all m h' k =>
      have := le (m := n) h'
      omega
  | @all n h k =>
    cases hb with
    | @long m h' =>
      have := le (m := m) h
      omega
    | @all m h' k' =>
      have a1 := le (m := m) h
      have a2 := le (m := n) h'
      rw [show n = m from by omega]
end Go.Proofs.YtpdcahaggacacaaDoor.Ev
set_option linter.unusedSimpArgs false
set_option linter.unusedVariables false
namespace Go.Proofs.YtpdcahaggacacaaDoor.Ev
open Go
set_option maxRecDepth 100000
structure Chg (S : Nat → Prop) (M M' : MH) : Prop where
  n : M.n ≤ M'.n
  lo : M'.lo = M.lo
  old : ∀ j, j < M.n → ¬ S j → M'.get j = M.get j
theorem Chg.refl (S : Nat → Prop) (M : MH) : Chg S M M := ⟨Nat.le_refl _, rfl, fun _ _ _ => rfl⟩
theorem Chg.trans {S : Nat → Prop} {a b c : MH} (h : Chg S a b) (k : Chg S b c) : Chg S a c := ⟨Nat.le_trans h.n k.n, k.lo.trans h.lo, fun j hj hs => (k.old j (Nat.lt_of_lt_of_le hj h.n) hs).trans (h.old j hj hs)⟩
theorem Chg.mono {S T : Nat → Prop} {a b : MH} (h : Chg S a b) (k : ∀ j, j < a.n → S j → T j) : Chg T a b := ⟨h.n, h.lo, fun j hj hs => h.old j hj fun hS => hs (k j hj hS)⟩
theorem Chg.ext {S : Nat → Prop} {a b : MH} (h : Chg S a b) (k : ∀ j, j < a.n → ¬ S j) : Ext a b := ⟨h.n, h.lo, fun j hj => h.old j hj (k j hj)⟩
theorem Chg.of {S : Nat → Prop} {a b : MH} (h : Ext a b) : Chg S a b := ⟨h.n, h.lo, fun j hj _ => h.old j hj⟩
theorem Chg.push {S : Nat → Prop} {a b : MH} (h : Chg S a b) (o : MO) : Chg S a (b.push o) := h.trans (.of (.push b o))
theorem Chg.set {S : Nat → Prop} {a b : MH} (h : Chg S a b) {id : Nat} (o : Option MO) (k : S id ∨ a.n ≤ id) : Chg S a (b.set id o) := ⟨h.n, h.lo, fun j hj hs => by
  rw [set_ne (by rcases k with k | k; exact fun e => hs (e ▸ k); omega)]; exact h.old j hj hs⟩
theorem get_set (p q : Ky) (m : MV) (f : Fr) : (T.set p (some m) f : Fr).get q = if p = q then some m else f.get q := T.get_set p (some m) f q

end Go.Proofs.YtpdcahaggacacaaDoor.Ev
set_option linter.unusedSimpArgs false
set_option linter.unusedVariables false
namespace Go.Proofs.YtpdcahaggacacaaDoor.Ev
open Go
inductive Rch (g : Gr) : Nat → Prop
  | start : Rch g g.start.toNat
  | step (r : Int × List Int × Int) (hr : r ∈ g.rules) (h : Rch g r.1.toNat) (s : Int) (hs : s ∈ r.2.1) (h0 : 0 ≤ s) : Rch g s.toNat
def RchSound (g : Gr) (l : List Bool) : Prop := ∀ a, l[a]? = some true → Rch g a
def RchVec (g : Gr) (l : List Bool) : Prop := l.length = g.names.toNat ∧ ∀ a, l[a]? = some true ↔ Rch g a
theorem vec_ext {a b : List Bool} {P : Nat → Prop} (hl : a.length = b.length) (ha : ∀ i, a[i]? = some true ↔ P i) (hb : ∀ i, b[i]? = some true ↔ P i) : a = b := by
  refine List.ext_getElem hl fun i h1 h2 => ?_
  have e1 := ha i
  have e2 := hb i
  rw [List.getElem?_eq_getElem h1] at e1
  rw [List.getElem?_eq_getElem h2] at e2
  have e := e1.trans e2.symm
  cases hx : a[i] <;> cases hy : b[i] <;> simp_all
theorem RchSound.set {g : Gr} {l : List Bool} (h : RchSound g l) {i : Nat} (hi : Rch g i) : RchSound g (l.set i true) := fun a e => by
  rw [List.getElem?_set] at e
  split at e
  · rename_i e1; subst e1; exact hi
  · exact h a e
end Go.Proofs.YtpdcahaggacacaaDoor.Ev
set_option linter.unusedSimpArgs false
set_option linter.unusedVariables false
namespace Go.Proofs.YtpdcahaggacacaaDoor.Ev
open Go
def bAt (l : List Bool) (i : Nat) : Bool := l.getD i false
theorem bAt_at {l : List Bool} {i : Nat} (h : i < l.length) : l[i]? = some (bAt l i) := by
  unfold bAt
  rw [List.getD_eq_getElem?_getD, List.getElem?_eq_getElem h]
  rfl
def BRow (M : MH) (v : MV) (l : List Bool) : Prop := RowAt M 1 v (l.map fun b => [.b b])
theorem BRow.ext {M M' : MH} {v : MV} {l : List Bool} (h : BRow M v l) (k : Ext M M') : BRow M' v l := RowAt.ext h k
theorem BRow.sl {M : MH} {v : MV} {l : List Bool} (h : BRow M v l) : isSl v = true ∧ slen v = l.length := by
  obtain ⟨a, b⟩ := RowAt.sl h
  exact ⟨a, by rw [b, List.length_map]⟩
theorem BRow.read {M : MH} {v : MV} {l : List Bool} (h : BRow M v l) {i : Nat} (hi : i < l.length) : ∃ ro s c, M.get (sid v) = some (.cs ro s c) ∧ sid v < M.n ∧ cget c (soff v + i * 1) = some (.b (bAt l i)) := by
  obtain ⟨ro, s, c, h1, h2, h3⟩ := RowAt.read h (i := i) (e := [.b (bAt l i)]) (by rw [List.getElem?_map, bAt_at hi]; rfl)
  exact ⟨ro, s, c, h1, h2, h3 0 _ rfl⟩
structure MRow (M : MH) (v : MV) (es : List (List MV)) (F : List (List Bool)) : Prop where
  row : RowAt M 1 v es
  len : es.length = F.length
  at_ : ∀ (i : Nat) l, F[i]? = some l → ∃ ur, es[i]? = some [ur] ∧ BRow M ur l
theorem MRow.ext {M M' : MH} {v : MV} {es : List (List MV)} {F : List (List Bool)} (h : MRow M v es F) (k : Ext M M') : MRow M' v es F := ⟨h.row.ext k, h.len, fun i l hl => let ⟨ur, h1, h2⟩ := h.at_ i l hl; ⟨ur, h1, h2.ext k⟩⟩
theorem MRow.read {M : MH} {v : MV} {es : List (List MV)} {F : List (List Bool)} (h : MRow M v es F) {i : Nat} {l : List Bool} (hl : F[i]? = some l) : ∃ ur ro s c, M.get (sid v) = some (.cs ro s c) ∧ sid v < M.n ∧ cget c (soff v + i * 1) = some ur ∧ BRow M ur l := by
  obtain ⟨ur, h1, h2⟩ := h.at_ i l hl
  obtain ⟨ro, s, c, h3, h4, h5⟩ := h.row.read h1
  exact ⟨ur, ro, s, c, h3, h4, h5 0 _ rfl, h2⟩
structure Fit (g : Gr) (null : List Bool) (F : List (List Bool)) : Prop where
  n : null.length = g.names.toNat
  f : F.length = g.names.toNat
  r : ∀ x ∈ F, x.length = g.kinds.toNat + 1
end Go.Proofs.YtpdcahaggacacaaDoor.Ev
set_option maxRecDepth 100000
namespace Go.Proofs.YtpdcahaggacacaaDoor.K
open Go Ev
abbrev G6 : IFn := Ftab tabZ
theorem gfits6 : FitsF Tryd.prog 6 G6 := .inr sem_alive6
def fnsL : List (Nat × IFn) := [(5, F5), (6, G6), (9, F9), (11, F11), (14, F14), (15, F15), (16, F16), (17, F17), (18, F18), (19, F19), (24, F24), (25, F25), (26, F26), (30, F30), (31, F31), (32, F32), (33, F33), (35, F35), (36, F36), (37, F37), (38, F38), (39, F39), (43, F43), (44, F44), (45, F45), (48, F48), (49, F49), (50, F50), (51, F51), (52, F52), (55, F55), (56, F56), (57, F57), (58, F58), (59, F59), (60, F60), (61, F61), (62, F62), (63, F63), (64, F64), (65, F65), (66, F66), (67, F67), (68, F68), (69, F69), (70, F70), (71, F71), (72, F72), (73, F73), (74, F74), (75, F75)]
def fnsT : T IFn := ⟨⟨none, none, none, none, none, some F5, some G6, none, none, some F9, none, some F11, none, none, some F14, some F15⟩, some ⟨w1, ⟨some F16, some F17, some F18, some F19, none, none, none, none, some F24, some F25, some F26, none, none, none, some F30, some F31⟩, ⟨some F32, some F33, none, some F35, some F36, some F37, some F38, some F39, none, none, none, some F43, some F44, some F45, none, none⟩, ⟨some F48, some F49, some F50, some F51, some F52, none, none, some F55, some F56, some F57, some F58, some F59, some F60, some F61, some F62, some F63⟩, ⟨some F64, some F65, some F66, some F67, some F68, some F69, some F70, some F71, some F72, some F73, some F74, some F75, none, none, none, none⟩, w1, w1, w1, w1, w1, w1, w1, w1, w1, w1, w1⟩, none, none, .lf⟩
theorem fnsT_eq : fnsT = mkT fnsL := by kernel_rfl
noncomputable def fns (g : Nat) : Option IFn := idK fnsT g
theorem fns_ok : ∀ g fn, fns g = some fn → FitsF Tryd.prog g fn :=
  fits_of fnsT_eq fun x hx => by
    unfold fnsL at hx
    simp only [List.mem_cons, List.not_mem_nil, or_false] at hx
    rcases hx with rfl | rfl | rfl | rfl | rfl | rfl | rfl | rfl | rfl | rfl | rfl | rfl | rfl | rfl | rfl | rfl | rfl | rfl | rfl | rfl | rfl | rfl | rfl | rfl | rfl | rfl | rfl | rfl | rfl | rfl | rfl | rfl | rfl | rfl | rfl | rfl | rfl | rfl | rfl | rfl | rfl | rfl | rfl | rfl | rfl | rfl | rfl | rfl | rfl | rfl | rfl
    · exact fits5
    · exact gfits6
    · exact fits9
    · exact fits11
    · exact fits14
    · exact fits15
    · exact fits16
    · exact fits17
    · exact fits18
    · exact fits19
    · exact fits24
    · exact fits25
    · exact fits26
    · exact fits30
    · exact fits31
    · exact fits32
    · exact fits33
    · exact fits35
    · exact fits36
    · exact fits37
    · exact fits38
    · exact fits39
    · exact fits43
    · exact fits44
    · exact fits45
    · exact fits48
    · exact fits49
    · exact fits50
    · exact fits51
    · exact fits52
    · exact fits55
    · exact fits56
    · exact fits57
    · exact fits58
    · exact fits59
    · exact fits60
    · exact fits61
    · exact fits62
    · exact fits63
    · exact fits64
    · exact fits65
    · exact fits66
    · exact fits67
    · exact fits68
    · exact fits69
    · exact fits70
    · exact fits71
    · exact fits72
    · exact fits73
    · exact fits74
    · exact fits75
theorem bxR : type_of% (((And.intro R5 (((And.intro R9 ((And.intro R11 (((And.intro R14 (And.intro R15 (And.intro R16 (And.intro R17 (And.intro R18 (And.intro R19 (((((And.intro R24 (And.intro R25 (And.intro R26 ((((And.intro R30 (And.intro R31 (And.intro R32 (And.intro R33 ((And.intro R35 (And.intro R36 (And.intro R37 (And.intro R38 (And.intro R39 ((((And.intro R43 (And.intro R44 (And.intro R45 (((And.intro R48 (And.intro R49 (And.intro R50 (And.intro R51 (And.intro R52 (((And.intro R55 (And.intro R56 (And.intro R57 (And.intro R58 (And.intro R59 (And.intro R60 (And.intro R61 (And.intro R62 (And.intro R63 (And.intro R64 (And.intro R65 (And.intro R66 (And.intro R67 (And.intro R68 (And.intro R69 (And.intro R70 (And.intro R71 (And.intro R72 (And.intro R73 (And.intro R74 (R75)))))))))))))))))))))))))))))))))))))))))))))))))))))))))))))))))))))))) := ((And.intro R5 (((And.intro R9 ((And.intro R11 (((And.intro R14 (And.intro R15 (And.intro R16 (And.intro R17 (And.intro R18 (And.intro R19 (((((And.intro R24 (And.intro R25 (And.intro R26 ((((And.intro R30 (And.intro R31 (And.intro R32 (And.intro R33 ((And.intro R35 (And.intro R36 (And.intro R37 (And.intro R38 (And.intro R39 ((((And.intro R43 (And.intro R44 (And.intro R45 (((And.intro R48 (And.intro R49 (And.intro R50 (And.intro R51 (And.intro R52 (((And.intro R55 (And.intro R56 (And.intro R57 (And.intro R58 (And.intro R59 (And.intro R60 (And.intro R61 (And.intro R62 (And.intro R63 (And.intro R64 (And.intro R65 (And.intro R66 (And.intro R67 (And.intro R68 (And.intro R69 (And.intro R70 (And.intro R71 (And.intro R72 (And.intro R73 (And.intro R74 (R75)))))))))))))))))))))))))))))))))))))))))))))))))))))))))))))))))))))))
end Go.Proofs.YtpdcahaggacacaaDoor.K
set_option linter.unusedVariables false
namespace Go.Proofs.YtpdcahaggacacaaDoor.Ev
open Go
theorem bxD : type_of% (And.intro @Wp_reg_iff (And.intro @Wp_seq_reg (And.intro @Wp_seq_skip (And.intro @Wp_seq_exit (And.intro @Wp_seq_ret (And.intro @Wp_seq_cond (And.intro @Wp_seq_block (And.intro @Wp_seq_loop (And.intro @Wp_seq_dreg (And.intro @Wp_seq_seq (And.intro @Wp_block_iff (And.intro @Wp_skip_iff (And.intro @Wp_exit_iff (And.intro @Wp_ret_iff (And.intro @Wp_cond_iff (And.intro @Wl_nil_iff (And.intro @Wl_op_iff (And.intro @Wl_gd_iff (And.intro @Wd_nil (And.intro @Wd_pu (And.intro @Wd_rd (And.intro @Wd_ad (And.intro @Wd_md (And.intro @Wd_fl (And.intro @Wd_ma (And.intro @Wd_gpu (And.intro @Wd_grd (And.intro @Wd_gad (@Wd_gmd))))))))))))))))))))))))))))) := And.intro @Wp_reg_iff (And.intro @Wp_seq_reg (And.intro @Wp_seq_skip (And.intro @Wp_seq_exit (And.intro @Wp_seq_ret (And.intro @Wp_seq_cond (And.intro @Wp_seq_block (And.intro @Wp_seq_loop (And.intro @Wp_seq_dreg (And.intro @Wp_seq_seq (And.intro @Wp_block_iff (And.intro @Wp_skip_iff (And.intro @Wp_exit_iff (And.intro @Wp_ret_iff (And.intro @Wp_cond_iff (And.intro @Wl_nil_iff (And.intro @Wl_op_iff (And.intro @Wl_gd_iff (And.intro @Wd_nil (And.intro @Wd_pu (And.intro @Wd_rd (And.intro @Wd_ad (And.intro @Wd_md (And.intro @Wd_fl (And.intro @Wd_ma (And.intro @Wd_gpu (And.intro @Wd_grd (And.intro @Wd_gad (@Wd_gmd))))))))))))))))))))))))))))
theorem bxP : type_of% (And.intro @bindP_some (And.intro @condP_t (And.intro @condP_f (And.intro @gdP_tt (And.intro @gdP_tf (And.intro @gdP_ft (And.intro @gdP_ff (And.intro @gdP_tp (And.intro @thenQ_ret (And.intro @thenQ_exit (And.intro @blockQ_norm (And.intro @blockQ_ret (And.intro @blockQ_exit (And.intro @ev_c (And.intro @ev_set (And.intro @setD_some (And.intro @setD_none (And.intro @retQ_ret (And.intro @retQ_norm (And.intro @o1_some (And.intro @ev_mov (And.intro @ev_pick (And.intro @ev_new (And.intro @ev_box (And.intro @ev_build (And.intro @ev_bslW (And.intro @bslW_some (And.intro @zrow_one (And.intro @fill_ag (And.intro @fill_one (And.intro @ev_ld1 (And.intro @ev_ldN (And.intro @ev_st (And.intro @ev_nck (And.intro @ev_binI (And.intro @ev_binB (And.intro @ev_binN (And.intro @ev_un (And.intro @ev_cvI (And.intro @ev_fld1 (And.intro @ev_fldN (And.intro @ev_fa (And.intro @ev_ixA (And.intro @ev_ixS (And.intro @ev_ext (And.intro @ev_mkm (And.intro @ev_cut (And.intro @ev_app (And.intro @ev_len (And.intro @ev_mn (And.intro @ev_mx (And.intro @ev_call (And.intro @ev_mkf (And.intro @ev_pu2 (And.intro @ev_rdm (And.intro @bin_add (And.intro @bin_sub (And.intro @bin_mul (And.intro @bin_eql (And.intro @bin_neq (And.intro @bin_lss (And.intro @bin_leq (And.intro @bin_gtr (And.intro @bin_geq (And.intro @binB_eql (And.intro @binB_neq (And.intro @un_not (And.intro @pick_t (And.intro @pick_f (And.intro @fa_p (And.intro @nck_p (And.intro @len_sl (And.intro @ix_sl (And.intro @ixA_p (And.intro @push_ok (And.intro @not_dec (And.intro @dregK_cons (And.intro @apartL_nil (And.intro @lateL_nil (And.intro @adopt_nil (And.intro @room0 (And.intro @room_n (And.intro @room_get (And.intro @room_lo (And.intro @lift_n (And.intro @lift_lo (And.intro @lift_get (And.intro @down_n (And.intro @down_lo (And.intro @down_get (And.intro @st_w (And.intro @stW_ok (And.intro @ld1_w (And.intro @ldN_w (And.intro @ldW_cs (And.intro @ldNW_cs (And.intro @map_ag (And.intro @cells_ag (And.intro @push_new (And.intro @push_old (And.intro @set_same (And.intro @set_ne (And.intro @set_n (And.intro @set_lo (And.intro @push_n (And.intro @push_lo (And.intro @wrap_in (And.intro @getN_setN' (And.intro @resL_1 (And.intro @res_set (And.intro @puM_eqA (And.intro @eqAg_nil (And.intro @eqAg_i (And.intro @beq_self_eq_true.{0} (And.intro @cond_true.{1} (And.intro @cond_false.{1} (And.intro @Bool.not_true (And.intro @Bool.not_false (And.intro @isU_ag (And.intro @isU_i (And.intro @isU_b (And.intro @isU_s (And.intro @isU_p (And.intro @isU_nils (And.intro @isU_sl (And.intro @Bool.false_eq_true (And.intro @pack1 (And.intro @pack2 (And.intro @pack3 (And.intro @resL_c (And.intro @consO_some (And.intro @ext_tp (And.intro @decide_true (And.intro @Ky.k1.injEq (And.intro @Ky.k2.injEq (And.intro @Ky.k3.injEq (And.intro @if_true.{1} (And.intro @if_false.{1} (And.intro @and_false (And.intro @and_true (And.intro @false_and (And.intro @true_and (And.intro @List.map_cons.{0,0} (And.intro @List.map_nil.{0,0} (And.intro @cget_setN (And.intro @cget_ofL (And.intro @List.length_cons.{0} (And.intro @List.length_nil.{0} (And.intro @Nat.lt_add_one (And.intro @Nat.le_refl (And.intro @Nat.zero_le (And.intro @List.getElem?_cons_zero.{0} (And.intro @List.getElem?_cons_succ.{0} (And.intro @Nat.add_zero (And.intro @Nat.zero_add (And.intro @Nat.sub_zero (@and_self))))))))))))))))))))))))))))))))))))))))))))))))))))))))))))))))))))))))))))))))))))))))))))))))))))))))))))))))))))))))))))))))))))))))))))))))))))))))))))) := And.intro @bindP_some (And.intro @condP_t (And.intro @condP_f (And.intro @gdP_tt (And.intro @gdP_tf (And.intro @gdP_ft (And.intro @gdP_ff (And.intro @gdP_tp (And.intro @thenQ_ret (And.intro @thenQ_exit (And.intro @blockQ_norm (And.intro @blockQ_ret (And.intro @blockQ_exit (And.intro @ev_c (And.intro @ev_set (And.intro @setD_some (And.intro @setD_none (And.intro @retQ_ret (And.intro @retQ_norm (And.intro @o1_some (And.intro @ev_mov (And.intro @ev_pick (And.intro @ev_new (And.intro @ev_box (And.intro @ev_build (And.intro @ev_bslW (And.intro @bslW_some (And.intro @zrow_one (And.intro @fill_ag (And.intro @fill_one (And.intro @ev_ld1 (And.intro @ev_ldN (And.intro @ev_st (And.intro @ev_nck (And.intro @ev_binI (And.intro @ev_binB (And.intro @ev_binN (And.intro @ev_un (And.intro @ev_cvI (And.intro @ev_fld1 (And.intro @ev_fldN (And.intro @ev_fa (And.intro @ev_ixA (And.intro @ev_ixS (And.intro @ev_ext (And.intro @ev_mkm (And.intro @ev_cut (And.intro @ev_app (And.intro @ev_len (And.intro @ev_mn (And.intro @ev_mx (And.intro @ev_call (And.intro @ev_mkf (And.intro @ev_pu2 (And.intro @ev_rdm (And.intro @bin_add (And.intro @bin_sub (And.intro @bin_mul (And.intro @bin_eql (And.intro @bin_neq (And.intro @bin_lss (And.intro @bin_leq (And.intro @bin_gtr (And.intro @bin_geq (And.intro @binB_eql (And.intro @binB_neq (And.intro @un_not (And.intro @pick_t (And.intro @pick_f (And.intro @fa_p (And.intro @nck_p (And.intro @len_sl (And.intro @ix_sl (And.intro @ixA_p (And.intro @push_ok (And.intro @not_dec (And.intro @dregK_cons (And.intro @apartL_nil (And.intro @lateL_nil (And.intro @adopt_nil (And.intro @room0 (And.intro @room_n (And.intro @room_get (And.intro @room_lo (And.intro @lift_n (And.intro @lift_lo (And.intro @lift_get (And.intro @down_n (And.intro @down_lo (And.intro @down_get (And.intro @st_w (And.intro @stW_ok (And.intro @ld1_w (And.intro @ldN_w (And.intro @ldW_cs (And.intro @ldNW_cs (And.intro @map_ag (And.intro @cells_ag (And.intro @push_new (And.intro @push_old (And.intro @set_same (And.intro @set_ne (And.intro @set_n (And.intro @set_lo (And.intro @push_n (And.intro @push_lo (And.intro @wrap_in (And.intro @getN_setN' (And.intro @resL_1 (And.intro @res_set (And.intro @puM_eqA (And.intro @eqAg_nil (And.intro @eqAg_i (And.intro @beq_self_eq_true.{0} (And.intro @cond_true.{1} (And.intro @cond_false.{1} (And.intro @Bool.not_true (And.intro @Bool.not_false (And.intro @isU_ag (And.intro @isU_i (And.intro @isU_b (And.intro @isU_s (And.intro @isU_p (And.intro @isU_nils (And.intro @isU_sl (And.intro @Bool.false_eq_true (And.intro @pack1 (And.intro @pack2 (And.intro @pack3 (And.intro @resL_c (And.intro @consO_some (And.intro @ext_tp (And.intro @decide_true (And.intro @Ky.k1.injEq (And.intro @Ky.k2.injEq (And.intro @Ky.k3.injEq (And.intro @if_true.{1} (And.intro @if_false.{1} (And.intro @and_false (And.intro @and_true (And.intro @false_and (And.intro @true_and (And.intro @List.map_cons.{0,0} (And.intro @List.map_nil.{0,0} (And.intro @cget_setN (And.intro @cget_ofL (And.intro @List.length_cons.{0} (And.intro @List.length_nil.{0} (And.intro @Nat.lt_add_one (And.intro @Nat.le_refl (And.intro @Nat.zero_le (And.intro @List.getElem?_cons_zero.{0} (And.intro @List.getElem?_cons_succ.{0} (And.intro @Nat.add_zero (And.intro @Nat.zero_add (And.intro @Nat.sub_zero (@and_self))))))))))))))))))))))))))))))))))))))))))))))))))))))))))))))))))))))))))))))))))))))))))))))))))))))))))))))))))))))))))))))))))))))))))))))))))))))))))))
theorem bxS : type_of% (And.intro @beq_self_eq_true.{0} (And.intro @Bool.not_false (And.intro @decide_true (And.intro @cells_ag (And.intro @cells_i (And.intro @cells_b (And.intro @cells_s (And.intro @cells_p (And.intro @cells_nilp (And.intro @cells_nils (And.intro @cells_m (And.intro @cells_sl (And.intro @cells_fn (And.intro @one_i (And.intro @one_b (And.intro @one_s (And.intro @one_p (And.intro @one_nilp (And.intro @one_nils (And.intro @one_m (And.intro @one_sl (And.intro @one_fn (And.intro @isU_i (And.intro @isU_b (And.intro @isU_s (And.intro @isU_p (And.intro @isU_nilp (And.intro @isU_nils (And.intro @isU_m (And.intro @isU_sl (And.intro @isU_ag (And.intro @isU_fn (And.intro @all_nil (And.intro @all_cons (And.intro @List.length_cons.{0} (And.intro @List.length_nil.{0} (And.intro @Bool.and_true (@Bool.true_and)))))))))))))))))))))))))))))))))))))) := And.intro @beq_self_eq_true.{0} (And.intro @Bool.not_false (And.intro @decide_true (And.intro @cells_ag (And.intro @cells_i (And.intro @cells_b (And.intro @cells_s (And.intro @cells_p (And.intro @cells_nilp (And.intro @cells_nils (And.intro @cells_m (And.intro @cells_sl (And.intro @cells_fn (And.intro @one_i (And.intro @one_b (And.intro @one_s (And.intro @one_p (And.intro @one_nilp (And.intro @one_nils (And.intro @one_m (And.intro @one_sl (And.intro @one_fn (And.intro @isU_i (And.intro @isU_b (And.intro @isU_s (And.intro @isU_p (And.intro @isU_nilp (And.intro @isU_nils (And.intro @isU_m (And.intro @isU_sl (And.intro @isU_ag (And.intro @isU_fn (And.intro @all_nil (And.intro @all_cons (And.intro @List.length_cons.{0} (And.intro @List.length_nil.{0} (And.intro @Bool.and_true (@Bool.true_and)))))))))))))))))))))))))))))))))))))
theorem bxU : type_of% (And.intro @push_lo (And.intro @push_n (And.intro @set_lo (@set_n)))) := And.intro @push_lo (And.intro @push_n (And.intro @set_lo (@set_n)))
theorem bxV : type_of% (And.intro @push_n (And.intro @set_n (@beq_self_eq_true.{0}))) := And.intro @push_n (And.intro @set_n (@beq_self_eq_true.{0}))
theorem bxL : type_of% (And.intro @List.length_cons.{0} (@List.length_nil.{0})) := And.intro @List.length_cons.{0} (@List.length_nil.{0})
theorem bxQ : (q0 = Ky.k1 .d0) ∧ (q1 = Ky.k1 .d1) ∧ (q2 = Ky.k1 .d2) ∧ (q3 = Ky.k1 .d3) ∧ (q4 = Ky.k1 .d4) ∧ (q5 = Ky.k1 .d5) ∧ (q6 = Ky.k1 .d6) ∧ (q7 = Ky.k1 .d7) ∧ (q8 = Ky.k1 .d8) ∧ (q9 = Ky.k1 .d9) ∧ (q10 = Ky.k1 .d10) ∧ (q11 = Ky.k1 .d11) ∧ (q12 = Ky.k1 .d12) ∧ (q13 = Ky.k1 .d13) ∧ (q14 = Ky.k1 .d14) ∧ (q15 = Ky.k1 .d15) ∧ (q16 = Ky.k2 .d1 .d0) ∧ (q17 = Ky.k2 .d1 .d1) ∧ (q18 = Ky.k2 .d1 .d2) ∧ (q19 = Ky.k2 .d1 .d3) ∧ (q20 = Ky.k2 .d1 .d4) ∧ (q21 = Ky.k2 .d1 .d5) ∧ (q22 = Ky.k2 .d1 .d6) ∧ (q23 = Ky.k2 .d1 .d7) ∧ (q24 = Ky.k2 .d1 .d8) ∧ (q25 = Ky.k2 .d1 .d9) ∧ (q26 = Ky.k2 .d1 .d10) ∧ (q27 = Ky.k2 .d1 .d11) ∧ (q28 = Ky.k2 .d1 .d12) ∧ (q29 = Ky.k2 .d1 .d13) ∧ (q30 = Ky.k2 .d1 .d14) ∧ (q31 = Ky.k2 .d1 .d15) ∧ (q32 = Ky.k2 .d2 .d0) ∧ (q33 = Ky.k2 .d2 .d1) ∧ (q34 = Ky.k2 .d2 .d2) ∧ (q35 = Ky.k2 .d2 .d3) ∧ (q36 = Ky.k2 .d2 .d4) ∧ (q37 = Ky.k2 .d2 .d5) ∧ (q38 = Ky.k2 .d2 .d6) ∧ (q39 = Ky.k2 .d2 .d7) ∧ (q40 = Ky.k2 .d2 .d8) ∧ (q41 = Ky.k2 .d2 .d9) ∧ (q42 = Ky.k2 .d2 .d10) ∧ (q43 = Ky.k2 .d2 .d11) ∧ (q44 = Ky.k2 .d2 .d12) ∧ (q45 = Ky.k2 .d2 .d13) ∧ (q46 = Ky.k2 .d2 .d14) ∧ (q47 = Ky.k2 .d2 .d15) ∧ (q48 = Ky.k2 .d3 .d0) ∧ (q49 = Ky.k2 .d3 .d1) ∧ (q50 = Ky.k2 .d3 .d2) ∧ (q51 = Ky.k2 .d3 .d3) ∧ (q52 = Ky.k2 .d3 .d4) ∧ (q53 = Ky.k2 .d3 .d5) ∧ (q54 = Ky.k2 .d3 .d6) ∧ (q55 = Ky.k2 .d3 .d7) ∧ (q56 = Ky.k2 .d3 .d8) ∧ (q57 = Ky.k2 .d3 .d9) ∧ (q58 = Ky.k2 .d3 .d10) ∧ (q59 = Ky.k2 .d3 .d11) := ⟨rfl, rfl, rfl, rfl, rfl, rfl, rfl, rfl, rfl, rfl, rfl, rfl, rfl, rfl, rfl, rfl, rfl, rfl, rfl, rfl, rfl, rfl, rfl, rfl, rfl, rfl, rfl, rfl, rfl, rfl, rfl, rfl, rfl, rfl, rfl, rfl, rfl, rfl, rfl, rfl, rfl, rfl, rfl, rfl, rfl, rfl, rfl, rfl, rfl, rfl, rfl, rfl, rfl, rfl, rfl, rfl, rfl, rfl, rfl, rfl⟩
end Go.Proofs.YtpdcahaggacacaaDoor.Ev
set_option linter.unusedSimpArgs false
set_option linter.unusedVariables false
namespace Go.Proofs.YtpdcahaggacacaaDoor.K
open Go Ev
set_option maxRecDepth 100000
set_option maxHeartbeats 4000000

structure LRow (M : MH) (v : MV) (es : List (List MV)) (L : List (List Int)) : Prop where
  row : RowAt M 1 v es
  len : es.length = L.length
  at_ : ∀ (i : Nat) l, L[i]? = some l → ∃ ur, es[i]? = some [ur] ∧ IntRow M ur l
theorem LRow.ext {M M' : MH} {v : MV} {es : List (List MV)} {L : List (List Int)} (h : LRow M v es L) (k : Ext M M') : LRow M' v es L := ⟨h.row.ext k, h.len, fun i l hl => let ⟨ur, h1, h2⟩ := h.at_ i l hl; ⟨ur, h1, h2.ext k⟩⟩
theorem LRow.read {M : MH} {v : MV} {es : List (List MV)} {L : List (List Int)} (h : LRow M v es L) {i : Nat} {l : List Int} (hl : L[i]? = some l) : ∃ ur ro s c, M.get (sid v) = some (.cs ro s c) ∧ sid v < M.n ∧ cget c (soff v + i * 1) = some ur ∧ IntRow M ur l := by
  obtain ⟨ur, h1, h2⟩ := h.at_ i l hl
  obtain ⟨ro, s, c, h3, h4, h5⟩ := h.row.read h1
  exact ⟨ur, ro, s, c, h3, h4, h5 0 _ rfl, h2⟩
end Go.Proofs.YtpdcahaggacacaaDoor.K
set_option linter.unusedSimpArgs false
set_option linter.unusedVariables false
namespace Go.Proofs.YtpdcahaggacacaaDoor.Ev
open Go
end Go.Proofs.YtpdcahaggacacaaDoor.Ev
set_option linter.unusedSimpArgs false
set_option linter.unusedVariables false
namespace Go.Proofs.YtpdcahaggacacaaDoor.K
open Go Ev
set_option maxRecDepth 100000
set_option maxHeartbeats 4000000

def wd (N k : Nat) : Nat := (N >>> (64 * k)) % 2 ^ 64
def st9 (N : Nat) : List MV := [.i .u64 ((wd N 0 : Nat) : Int), .i .u64 ((wd N 1 : Nat) : Int), .i .u64 ((wd N 2 : Nat) : Int), .i .u64 ((wd N 3 : Nat) : Int), .i .u64 ((wd N 4 : Nat) : Int), .i .u64 ((wd N 5 : Nat) : Int), .i .u64 ((wd N 6 : Nat) : Int), .i .u64 ((wd N 7 : Nat) : Int), .i .u64 ((wd N 8 : Nat) : Int)]
def itc (n : Nat) : List MV := [.i .i64 (((n / 9 : Nat) : Int) - 1), .i .i64 ((n % 9 : Nat) : Int)]
def ivs (l : List Nat) : List (List MV) := l.map itc
theorem ivs_len (l : List Nat) : (ivs l).length = l.length := by unfold ivs; rw [List.length_map]
theorem ivs_app (a b : List Nat) : ivs (a ++ b) = ivs a ++ ivs b := by unfold ivs; rw [List.map_append]
def itemO (g : Gr) (r a : Int) : Option Nat := if r < -1 ∨ a < 0 then none else match rightN g (r + 1).toNat with
  | some l => if a ≤ l.length then some ((r + 1) * 9 + a).toNat else none
  | none => none
def cutLo (sz l : Nat) : MV → MV
  | .sl id off n e => .sl id (off + l * sz) (n - l) (e + l)
  | v => v
end Go.Proofs.YtpdcahaggacacaaDoor.K
set_option linter.unusedSimpArgs false
set_option linter.unusedVariables false
namespace Go.Proofs.YtpdcahaggacacaaDoor.Ev
open Go
structure DInv (g : Gr) (S : Nat → Prop) (out work : List Nat) (x i : Nat) : Prop where
  sub : ∀ n, S n → n ∈ out ∨ n ∈ work
  sndO : ∀ n ∈ out, InC g S n
  sndW : ∀ n ∈ work, InC g S n
  ris : Ris out
  cls : ∀ n ∈ out, ∀ s, behN g n = some s → ∀ i' r, g.rules[i']? = some r → r.1 = s → (n = x → i' < i) → (i' + 1) * 9 ∈ out ∨ (i' + 1) * 9 ∈ work
theorem DInv.start {g : Gr} {S : Nat → Prop} {work : List Nat} (h : ∀ n, n ∈ work ↔ S n) (x i : Nat) : DInv g S [] work x i := ⟨fun n hn => .inr ((h n).2 hn), fun n hn => (by simp at hn), fun n hn => .base ((h n).1 hn), List.Pairwise.nil, fun n hn => (by simp at hn)⟩
theorem DInv.take {g : Gr} {S : Nat → Prop} {out work ins : List Nat} {x n i : Nat} (h : DInv g S out (n :: work) x i) (hi : ∀ i' r, g.rules[i']? = some r → i' < i) (hr : Ris ins) (hm : ∀ m, m ∈ ins ↔ m = n ∨ m ∈ out) (hn : n ∉ out) : DInv g S ins work n 0 := by
  refine ⟨fun m hm' => ?_, fun m hm' => ?_, fun m hm' => h.sndW m (List.mem_cons_of_mem _ hm'), hr, fun m hm' s hs i' r hr' hl hlt => ?_⟩
  · rcases h.sub m hm' with e | e
    · exact .inl ((hm m).2 (.inr e))
    · rcases List.mem_cons.1 e with e | e
      · exact .inl ((hm m).2 (.inl e))
      · exact .inr e
  · rcases (hm m).1 hm' with e | e
    · rw [e]; exact h.sndW n List.mem_cons_self
    · exact h.sndO m e
  · rcases (hm m).1 hm' with e | e
    · have := hlt e; omega
    · rcases h.cls m e s hs i' r hr' hl (fun _ => hi i' r hr') with e | e
      · exact .inl ((hm _).2 (.inr e))
      · rcases List.mem_cons.1 e with e | e
        · exact .inl ((hm _).2 (.inl e))
        · exact .inr e
theorem DInv.any {g : Gr} {S : Nat → Prop} {out work : List Nat} {x i : Nat} (h : DInv g S out work x i) (hi : ∀ i' r, g.rules[i']? = some r → i' < i) (y j : Nat) : DInv g S out work y j := ⟨h.sub, h.sndO, h.sndW, h.ris, fun m hm s hs i' r hr hl _ => h.cls m hm s hs i' r hr hl fun _ => hi i' r hr⟩
theorem DInv.rule {g : Gr} {S : Nat → Prop} {out work : List Nat} {x i : Nat} {s : Int} {r : Int × List Int × Int} (h : DInv g S out work x i) (hx : InC g S x) (hb : behN g x = some s) (hr : g.rules[i]? = some r) (hl : r.1 = s) : DInv g S out (work ++ [(i + 1) * 9]) x (i + 1) := ⟨fun m hm => (h.sub m hm).imp id (List.mem_append_left _), h.sndO, fun m hm => (List.mem_append.1 hm).elim (h.sndW m) fun e => by rw [List.mem_singleton.1 e]; exact .step hx hb hr hl, h.ris, fun m hm s' hs i' r' hr' hl' hlt => by
  by_cases e : m = x ∧ i' = i
  · exact .inr (List.mem_append_right _ (by rw [e.2]; exact List.mem_singleton.2 rfl))
  · exact (h.cls m hm s' hs i' r' hr' hl' fun e' => by have := hlt e'; omega).imp id (List.mem_append_left _)⟩
theorem DInv.other {g : Gr} {S : Nat → Prop} {out work : List Nat} {x i : Nat} {s : Int} (h : DInv g S out work x i) (hb : behN g x = some s) (ho : ∀ r, g.rules[i]? = some r → r.1 ≠ s) : DInv g S out work x (i + 1) := ⟨h.sub, h.sndO, h.sndW, h.ris, fun m hm s' hs i' r' hr' hl' hlt => h.cls m hm s' hs i' r' hr' hl' fun e => by
  have := hlt e
  rcases Nat.lt_or_ge i' i with e' | e'
  · exact e'
  · have : i' = i := by omega
    subst this
    subst e
    rw [hb] at hs
    injection hs with hs
    exact absurd (hl'.trans hs.symm) (ho r' hr')⟩
theorem DInv.fin {g : Gr} {S : Nat → Prop} {out : List Nat} {x i : Nat} (h : DInv g S out [] x i) (hi : ∀ i' r, g.rules[i']? = some r → i' < i) (n : Nat) : n ∈ out ↔ InC g S n := by
  refine ⟨h.sndO n, fun hn => ?_⟩
  induction hn with
  | base hn => exact (h.sub _ hn).elim id fun e => (by simp at e)
  | @step n i' s r hn hb hr hl ih => exact (h.cls n ih s hb i' r hr hl fun _ => hi i' r hr).elim id fun e => (by simp at e)
end Go.Proofs.YtpdcahaggacacaaDoor.Ev
