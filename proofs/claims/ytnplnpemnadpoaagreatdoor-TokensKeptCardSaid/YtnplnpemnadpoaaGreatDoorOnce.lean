/-
  sync.Once in one goroutine: Do of a function that is known by its contract; strings.IndexByte. Conditions: the lock is free.
-/
import Derived.Test.YtnplnpemnadpoaaGreatDoorSx
import Derived.Test.YtnplnpemnadpoaaGreatDoorEvC
import Derived.Test.YtnplnpemnadpoaaGreatDoorProg
import Derived.Tactics
import Derived.Tactics2
import Derived.Defers
import Derived.Laws.Pointers
import Derived.Laws.LoneSync
import Derived.Laws.NewBlocks
import Derived.RegionTactic
import Derived.RegionCalls
import Derived.ChangeAlike
import Derived.Lib.Bytealg
set_option linter.unusedSimpArgs false
set_option linter.unusedVariables false
namespace Go.Proofs.YtnplnpemnadpoaaGreatDoor.Ev
open Go

theorem disable (w : World) : (callFunc 150 #[]).run Tryz.prog w = .ok (.value (.tuple #[])) w := run_call_mark0 Tryz.func150 (by kernel_rfl) (by kernel_rfl) (by kernel_rfl) .disable (by kernel_rfl) w
theorem enable (w : World) : (callFunc 152 #[]).run Tryz.prog w = .ok (.value (.tuple #[])) w := run_call_mark0 Tryz.func152 (by kernel_rfl) (by kernel_rfl) (by kernel_rfl) .enable (by kernel_rfl) w
theorem acquire (a : Addr) (w : World) : (callFunc 153 #[.pointer (some a)]).run Tryz.prog w = .ok (.value (.tuple #[])) w := run_call_marked Tryz.func153 (by kernel_rfl) (by kernel_rfl) (by kernel_rfl) .acquire (by kernel_rfl) a w
theorem releaseMerge (a : Addr) (w : World) : (callFunc 155 #[.pointer (some a)]).run Tryz.prog w = .ok (.value (.tuple #[])) w := run_call_marked Tryz.func155 (by kernel_rfl) (by kernel_rfl) (by kernel_rfl) .releaseMerge (by kernel_rfl) a w
set_option maxRecDepth 100000 in
set_option maxHeartbeats 1600000 in
theorem store_deferred (a : Addr) (x : Value) (u : FrameMode) (w : World) (hc : w.cell? a = some x) (hz : w.frozen? a = false) :
    CallsD Tryz.prog 107 #[.pointer (some a), .bool true] u w fun e u' w' => u' = u ∧ (e = .returned (.tuple #[]) ∧ w' = w.drew.setCell a (.int .u32 1)) := by
  have hc' : w.drew.cell? a = some x := by go_simp
  have hz' : w.drew.frozen? a = false := by go_simp
  have hst := run_call_store (P := Tryz.prog) Tryz.func131 (by kernel_rfl) (by kernel_rfl) (by kernel_rfl) (by kernel_rfl) (k := .u32) (y := 1) hc' hz'
  go_enter_d Tryz.func107, Tryz.ntmps107
  go_wp2
  go_region_calls
  all_goals (go_end0; exact ⟨rfl, rfl⟩)
set_option maxRecDepth 100000 in
set_option maxHeartbeats 1600000 in
theorem unlock_deferred (a : Addr) (u : FrameMode) (w : World) (hc : w.cell? a = some (.int .i32 1)) (hz : w.frozen? a = false) :
    CallsD Tryz.prog 106 #[.pointer (some a)] u w fun e u' w' => u' = u ∧ (e = .returned (.tuple #[]) ∧ w' = w.setCell a (.int .i32 0)) := by
  have hd := disable
  have he := enable
  have hr := releaseMerge
  have hadd := run_call_add (P := Tryz.prog) Tryz.func156 (by kernel_rfl) (by kernel_rfl) (by kernel_rfl) .i32 (by kernel_rfl) (y := -1) (s := 0) hc hz (by simp [go_sem]; rfl)
  have hcv := run_convert_to_unsafe (P := Tryz.prog) (src := 276) (dst := 280) Tryz.underlying276 Tryz.underlying280 (by kernel_rfl) hc
  go_enter_d Tryz.func106, Tryz.ntmps106
  go_wp2
  go_end0
  go_wp2
  go_end0
  exact ⟨rfl, rfl⟩
set_option maxRecDepth 100000 in
set_option maxHeartbeats 1600000 in
theorem lock_free (a : Addr) (w : World) (hc : w.cell? a = some (.int .i32 0)) (hz : w.frozen? a = false) :
    Calls Tryz.prog 105 #[.pointer (some a)] w fun e w' => e = .returned (.tuple #[]) ∧ w' = w.setCell a (.int .i32 1) := by
  have hd := disable
  have he := enable
  have ha := acquire
  have hcas := run_call_cas_hit (P := Tryz.prog) Tryz.func151 (by kernel_rfl) (by kernel_rfl) (by kernel_rfl) .i32 (by kernel_rfl) (y := 1) hc hz
  have hc' : (w.setCell a (.int .i32 1)).cell? a = some (.int .i32 1) := World.cell?_setCell_same w a _ hc
  have hcv := run_convert_to_unsafe (P := Tryz.prog) (src := 276) (dst := 280) Tryz.underlying276 Tryz.underlying280 (by kernel_rfl) hc'
  go_enter Tryz.func105, Tryz.ntmps105
  go_wp2
  first | go_end0 | (simp only [Exit.inBlock, Exit.then]; refine bodyPost_ret (results_none rfl _ _ _) rfl ?_) | refine bodyPost_ret (results_none rfl _ _ _) rfl ?_
  go_wp2
  go_end0
  exact ⟨rfl, rfl⟩
theorem load_any (a : Addr) (d : Int) (w : World) (h0 : w.cell? a = some (.int .u32 d)) :
    Calls Tryz.prog 79 #[.pointer (some a)] w fun e w' => e = .returned (.bool (d != 0)) ∧ w' = w := by
  have hl := run_call_load (P := Tryz.prog) Tryz.func104 (by kernel_rfl) (by kernel_rfl) (by kernel_rfl) .u32 (by kernel_rfl) h0
  go_enter Tryz.func79, Tryz.ntmps79
  go_wp2
  go_ret
  exact ⟨rfl, rfl⟩
set_option maxRecDepth 100000 in
set_option maxHeartbeats 1600000 in
theorem slow_any (b off g : Nat) (fn : Func) (cd : Code) (hfn : Tryz.prog.funcs[g]? = some fn) (hnm : (fn.name == "runtime.NumGoroutine") = false) (hbd : fn.body = some cd) (va vc : Array Value) (Q : Value → World → Prop) (w : World)
    (h0 : w.cell? ⟨b, off, none⟩ = some (.int .u32 0)) (h1 : w.cell? ⟨b, off + 1, none⟩ = some (.int .i32 0)) (f1 : w.frozen? ⟨b, off + 1, none⟩ = false)
    (hf : Calls Tryz.prog g (va ++ vc) (w.setCell ⟨b, off + 1, none⟩ (.int .i32 1)) fun e w' => ∃ v, e = .returned v ∧ Q v w')
    (hQ : ∀ v w', Q v w' → (∃ x, w'.cell? ⟨b, off, none⟩ = some x) ∧ w'.frozen? ⟨b, off, none⟩ = false ∧ w'.cell? ⟨b, off + 1, none⟩ = some (.int .i32 1) ∧ w'.frozen? ⟨b, off + 1, none⟩ = false) :
    Calls Tryz.prog 80 #[.pointer (some ⟨b, off, none⟩), .func (.func g) va vc] w fun e w' => e = .returned (.tuple #[]) ∧
      ∃ v w1, Q v w1 ∧ w' = (w1.drew.setCell ⟨b, off, none⟩ (.int .u32 1)).setCell ⟨b, off + 1, none⟩ (.int .i32 0) := by
  have hl := load_any ⟨b, off, none⟩ 0 (w.setCell ⟨b, off + 1, none⟩ (.int .i32 1)) ((World.cell?_setCell_other _ ⟨b, off + 1, none⟩ ⟨b, off, none⟩ _ (by simp)).trans h0)
  have hnot : ∀ (x : Bool) (w : World), (Op.unary .not (.bool x)).run Tryz.prog w = .ok (.bool (!x)) w := fun _ _ => rfl
  go_enter_defers Tryz.func80, Tryz.ntmps80
  go_wp2_with (go_at_call 105; refine (lock_free ⟨b, off + 1, none⟩ _ (by go_simp) (by go_simp)).mono ?_; rintro e w' ⟨rfl, rfl⟩)
  have hrun : ∀ (w : World), (callFunc g (va ++ vc)).run Tryz.prog w = .ok (.enter g (va ++ vc)) w := fun w => by
    have n1 : ¬ fn.name = "runtime.NumGoroutine" := by simpa using hnm
    have n2 : ¬ fn.body = none := by rw [hbd]; simp
    simp [callFunc, hfn, n1, n2]
  go_wp2_with (go_at_call 79; refine hl.mono ?_; rintro e w' ⟨rfl, rfl⟩)
  refine hf.mono ?_
  rintro e w2 ⟨v, rfl, hq⟩
  obtain ⟨⟨x, c0⟩, z0, c1, z1⟩ := hQ _ _ hq
  go_wp2_with fail
  -- two deferred calls, the last laid first
  refine leaves_cons (f := 107) (args := #[.pointer (some ⟨b, off, none⟩), .bool true]) (by simp) (by simp [go_sem]) ?_
  refine (store_deferred ⟨b, off, none⟩ _ .returning _ c0 z0).mono ?_
  rintro e u' w'' ⟨rfl, rfl, rfl⟩
  refine leaves_cons (f := 106) (args := #[.pointer (some ⟨b, off + 1, none⟩)]) (by simp [settle]) (by simp [go_sem]) ?_
  refine (unlock_deferred ⟨b, off + 1, none⟩ _ _ ?_ (by simp [z1])).mono ?_
  · refine (World.cell?_setCell_other _ ⟨b, off, none⟩ ⟨b, off + 1, none⟩ _ (by simp)).trans ?_
    rw [World.cell?_drew]
    exact c1
  rintro e u' w'' ⟨rfl, rfl, rfl⟩
  simp only [Leaves, settle]
  refine ⟨_, results_none rfl _ _ _, ?_⟩
  exact ⟨rfl, v, w2, hq, rfl⟩
set_option maxRecDepth 100000 in
set_option maxHeartbeats 1600000 in
theorem do_first (b off g : Nat) (fn : Func) (cd : Code) (hfn : Tryz.prog.funcs[g]? = some fn) (hnm : (fn.name == "runtime.NumGoroutine") = false) (hbd : fn.body = some cd) (va vc : Array Value) (Q : Value → World → Prop) (w : World)
    (h0 : w.cell? ⟨b, off, none⟩ = some (.int .u32 0)) (h1 : w.cell? ⟨b, off + 1, none⟩ = some (.int .i32 0)) (f1 : w.frozen? ⟨b, off + 1, none⟩ = false)
    (hf : Calls Tryz.prog g (va ++ vc) (w.setCell ⟨b, off + 1, none⟩ (.int .i32 1)) fun e w' => ∃ v, e = .returned v ∧ Q v w')
    (hQ : ∀ v w', Q v w' → (∃ x, w'.cell? ⟨b, off, none⟩ = some x) ∧ w'.frozen? ⟨b, off, none⟩ = false ∧ w'.cell? ⟨b, off + 1, none⟩ = some (.int .i32 1) ∧ w'.frozen? ⟨b, off + 1, none⟩ = false) :
    Calls Tryz.prog 63 #[.pointer (some ⟨b, off, none⟩), .func (.func g) va vc] w fun e w' => e = .returned (.tuple #[]) ∧
      ∃ v w1, Q v w1 ∧ w' = (w1.drew.setCell ⟨b, off, none⟩ (.int .u32 1)).setCell ⟨b, off + 1, none⟩ (.int .i32 0) := by
  have hl := load_any ⟨b, off, none⟩ 0 w h0
  have hnot : ∀ (x : Bool) (w : World), (Op.unary .not (.bool x)).run Tryz.prog w = .ok (.bool (!x)) w := fun _ _ => rfl
  go_enter Tryz.func63, Tryz.ntmps63
  go_wp2_with (go_at_call 79; refine hl.mono ?_; rintro e w' ⟨rfl, rfl⟩)
  refine (slow_any b off g fn cd hfn hnm hbd va vc Q _ h0 h1 f1 hf hQ).mono ?_
  rintro e w' ⟨rfl, v, w1, hq, rfl⟩
  go_wp2_with fail
  go_end0
  exact ⟨rfl, v, w1, hq, rfl⟩
theorem do_done (a : Addr) (d : Int) (hd : ¬ d = 0) (fv : Value) (w : World) (h0 : w.cell? a = some (.int .u32 d)) :
    Calls Tryz.prog 63 #[.pointer (some a), fv] w fun e w' => e = .returned (.tuple #[]) ∧ w' = w := by
  have hl := load_any a d w h0
  have hnot : ∀ (x : Bool) (w : World), (Op.unary .not (.bool x)).run Tryz.prog w = .ok (.bool (!x)) w := fun _ _ => rfl
  have hd' : (d != 0) = true := by simp [hd]
  rw [hd'] at hl
  go_enter Tryz.func63, Tryz.ntmps63
  go_wp2_with (go_at_call 79; refine hl.mono ?_; rintro e w' ⟨rfl, rfl⟩)
  go_end0
  exact ⟨rfl, rfl⟩
set_option maxRecDepth 100000 in
set_option maxHeartbeats 1600000 in
theorem index_any (s : ByteArray) (c : Int) (w : World) : Calls Tryz.prog 164 #[.string s, .int .u8 c] w fun e w' => e = .returned (.int .i64 (Lib.indexByte s.data.toList c.toNat.toUInt8)) ∧ w = w' := by
  have h : Calls Tryz.prog 181 #[.string s, .int .u8 c] w fun e w' => e = .returned (.int .i64 (Lib.indexByte s.data.toList c.toNat.toUInt8)) ∧ w = w' := by
    go_enter Tryz.func181, Tryz.ntmps181
    go_wp2
    rw [run_callFunc_extern Tryz.func194 (by kernel_rfl) (by kernel_rfl) (by kernel_rfl) (e := Extern.BytealgIndexByte.indexByte) (by kernel_rfl), Lib.run_indexByteString]
    simp only [Result.andThen]
    rw [Oper.upon_value]
    go_wp2
    go_ret
    exact ⟨rfl, rfl⟩
  go_enter Tryz.func164, Tryz.ntmps164
  go_wp2_with fail
  refine h.mono ?_
  rintro e w' ⟨rfl, rfl⟩
  go_wp2_with fail
  go_ret
  exact ⟨rfl, rfl⟩
theorem ixbL_eq (c : Nat) (hc : c < 256) : ∀ (l : List UInt8) (i : Nat) (r : Int), Lib.indexByte l c.toUInt8 = r → ixbL c l i = if r = -1 then -1 else r + i
  | [], i, r, hr => by
    simp only [Lib.indexByte] at hr
    subst hr
    rfl
  | x :: l, i, r, hr => by
    have h0 := ixbL_eq c hc l (i + 1) _ rfl
    have hcons : ixbL c (x :: l) i = bif Nat.beq x.toNat c then .ofNat i else ixbL c l (Nat.succ i) := rfl
    have hge : ∀ l : List UInt8, -1 ≤ Lib.indexByte l c.toUInt8 := fun l => by
      induction l with
      | nil => simp [Lib.indexByte]
      | cons y l ih =>
        simp only [Lib.indexByte]
        split
        · omega
        · split <;> omega
    have hg := hge l
    rw [hcons]
    simp only [Lib.indexByte] at hr
    have hx : (x == c.toUInt8) = Nat.beq x.toNat c := by
      rw [Bool.eq_iff_iff, beq_iff_eq, Nat.beq_eq]
      constructor
      · rintro rfl; simp; omega
      · intro h; rw [← h]; simp
    rw [hx] at hr
    generalize Lib.indexByte l c.toUInt8 = q at *
    cases hb : Nat.beq x.toNat c with
    | true =>
      rw [hb] at hr
      subst hr
      simp
    | false =>
      rw [hb] at hr
      simp only [Bool.false_eq_true, if_false, beq_iff_eq] at hr
      subst hr
      simp only [cond_false]
      rw [show Nat.succ i = i + 1 from rfl, h0]
      by_cases hq : q = -1
      · simp [hq]
      · rw [if_neg hq, if_neg hq, if_neg (by omega)]
        omega
/-! What a run of a piece of code was. -/
theorem inv_reg {fns : Nat → Option IFn} {n : Nat} {l : List IOper} {f f' : Fr} {M M' : MH} {ex : Ex} (h : run fns n (.reg l) f M = some (ex, f', M')) : ∃ k, k < n ∧ ex = .norm ∧ evL (callF fns k) l f M = some (f', M') := by
  cases n with
  | zero => rw [run_zero] at h; cases h
  | succ n =>
    rw [run_succ] at h
    simp only at h
    cases he : evL (callF fns n) l f M with
    | none => rw [he] at h; cases h
    | some fm =>
      obtain ⟨f1, M1⟩ := fm
      rw [he] at h
      injection h with h; injection h with h1 h2; injection h2 with h2 h3
      subst h1 h2 h3
      exact ⟨n, Nat.lt_succ_self n, rfl, he⟩
theorem inv_seq {fns : Nat → Option IFn} {n : Nat} {l : List IOper} {b : IC} {f f' : Fr} {M M' : MH} {ex : Ex} (h : run fns n (.seq (.reg l) b) f M = some (ex, f', M')) : ∃ k j f1 M1, k < n ∧ j < n ∧ evL (callF fns k) l f M = some (f1, M1) ∧ run fns j b f1 M1 = some (ex, f', M') := by
  cases n with
  | zero => rw [run_zero] at h; cases h
  | succ n =>
    rw [run_succ] at h
    simp only at h
    cases he : run fns n (.reg l) f M with
    | none => rw [he] at h; cases h
    | some efm =>
      obtain ⟨e1, f1, M1⟩ := efm
      obtain ⟨k, hk, rfl, hl⟩ := inv_reg he
      rw [he] at h
      exact ⟨k, n, f1, M1, by omega, Nat.lt_succ_self n, hl, h⟩
theorem inv_cond {fns : Nat → Option IFn} {n : Nat} {x : X} {a b : IC} {f f' : Fr} {M M' : MH} {ex : Ex} (h : run fns n (.cond x a b) f M = some (ex, f', M')) : ∃ k, k < n ∧ ((x.ev f = .b true ∧ run fns k a f M = some (ex, f', M')) ∨ (x.ev f = .b false ∧ run fns k b f M = some (ex, f', M'))) := by
  cases n with
  | zero => rw [run_zero] at h; cases h
  | succ n =>
    rw [run_succ] at h
    simp only at h
    cases hx : x.ev f <;> rw [hx] at h <;> (try simp only [reduceCtorEq] at h)
    rename_i t
    cases t with
    | true => exact ⟨n, Nat.lt_succ_self n, .inl ⟨rfl, h⟩⟩
    | false => exact ⟨n, Nat.lt_succ_self n, .inr ⟨rfl, h⟩⟩
theorem inv_bad {fns : Nat → Option IFn} {n : Nat} {f : Fr} {M : MH} {r : Ex × Fr × MH} (h : run fns n .bad f M = some r) : False := by
  cases n with
  | zero => rw [run_zero] at h; cases h
  | succ n => rw [run_succ] at h; cases h
theorem inv_skip {fns : Nat → Option IFn} {n : Nat} {f f' : Fr} {M M' : MH} {ex : Ex} (h : run fns n .skip f M = some (ex, f', M')) : ex = .norm ∧ f = f' ∧ M = M' := by
  cases n with
  | zero => rw [run_zero] at h; cases h
  | succ n =>
    rw [run_succ] at h
    injection h with h; injection h with h1 h2; injection h2 with h2 h3
    exact ⟨h1.symm, h2, h3⟩
theorem inv_op {call : CallM} {d : Option Ky} {io : Iop} {l : List IOper} {f f' : Fr} {M M' : MH} (h : evL call (⟨d, none, io⟩ :: l) f M = some (f', M')) : ∃ m M1, io.ev call f M = some (m, M1) ∧ evL call l (setD f d m) M1 = some (f', M') := by
  rw [evL_cons] at h
  unfold evO at h
  simp only [wantM] at h
  cases hio : io.ev call f M with
  | none => rw [hio] at h; cases h
  | some mm =>
    obtain ⟨m, M1⟩ := mm
    rw [hio] at h
    exact ⟨m, M1, rfl, h⟩
theorem inv_end {call : CallM} {f f' : Fr} {M M' : MH} (h : evL call [] f M = some (f', M')) : f = f' ∧ M = M' := by
  rw [evL_nil] at h
  injection h with h; injection h with h1 h2
  exact ⟨h1, h2⟩
/-- What a call of a function that stands for another was. -/
theorem inv_call {fns : Nat → Option IFn} {n g : Nat} {fn : IFn} {args : List MV} {M M' : MH} {m : MV} (hg : fns g = some fn) (h : callF fns n g args M = some (m, M')) : args.length ≤ fn.sz ∧ ∃ ex f' l, run fns n fn.body (argsF args 0 .lf) M = some (ex, f', M') ∧ resL f' M' fn.res = some l ∧ m = packM l := by
  unfold callF at h
  rw [hg] at h
  simp only at h
  cases hlen : Nat.ble args.length fn.sz with
  | false => rw [hlen] at h; cases h
  | true =>
    refine ⟨Nat.le_of_ble_eq_true hlen, ?_⟩
    rw [hlen] at h
    simp only [cond_true] at h
    cases hrun : run fns n fn.body (argsF args 0 .lf) M with
    | none => rw [hrun] at h; cases h
    | some efm =>
      obtain ⟨ex, f', M1⟩ := efm
      rw [hrun] at h
      have h' : (match resL f' M1 fn.res with
            | some l => some (packM l, M1)
            | none => none) = some (m, M') := by
        cases ex with
        | norm => exact h
        | ret => exact h
        | exit id => cases h
      cases hrs : resL f' M1 fn.res with
      | none => rw [hrs] at h'; cases h'
      | some l =>
        rw [hrs] at h'
        injection h' with h'; injection h' with h1 h2
        subst h1 h2
        exact ⟨ex, f', l, rfl, hrs, rfl⟩
theorem arg_at (args : List MV) (t : Nat) : (argsF args 0 .lf).get (path t) = args[t]? := by
  rw [argsF_get]
  split
  · simp
  · rename_i h
    rw [T.get_lf, List.getElem?_eq_none (by omega)]
def Fix : IFn := ⟨2, [.tmp q2], .reg [⟨some q2, none, .pu2 .ixB (.t q0) (.t q1)⟩]⟩
set_option maxRecDepth 100000 in
theorem sem_ix : SemF Tryz.prog 164 Fix := by
  intro fns n hg hlow args M M' m h
  obtain ⟨hlen, ex, f', l, hrun, hres, rfl⟩ := inv_call hg h
  obtain ⟨k, -, rfl, hl⟩ := inv_reg hrun
  obtain ⟨m1, M1, ho, hl2⟩ := inv_op hl
  clear hl hrun h
  obtain ⟨rfl, rfl⟩ := inv_end hl2
  clear hl2
  have a0 := arg_at args 0
  have a1 := arg_at args 1
  simp only [Iop.ev, X.ev] at ho
  rw [show q0 = path 0 from by kernel_rfl, show q1 = path 1 from by kernel_rfl, a0, a1] at ho
  refine ⟨⟨Tryz.f164, _, Tryz.func164, by kernel_rfl, rfl⟩, fun β w vs hgl hi hd => ?_⟩
  have hxy : ∃ x y, args = [x, y] := by
    match args, hlen, ho with
    | [], _, ho => cases ho
    | [x], _, ho => cases x <;> simp [puM] at ho
    | x :: y :: z :: r, hlen, ho => exact absurd hlen (by simp [Fix])
    | [x, y], _, _ => exact ⟨x, y, rfl⟩
  obtain ⟨x, y, rfl⟩ := hxy
  clear hlen a0 a1
  obtain ⟨v, ws, rfl, d1, d2⟩ := hd.inv
  clear hd
  obtain ⟨v2, ws2, rfl, d3, d4⟩ := d2.inv
  clear d2
  cases d4.inv0
  clear d4
  simp only [List.getElem?_cons_zero, List.getElem?_cons_succ] at ho
  cases d1 <;> (try (simp [puM] at ho; done))
  rename_i s
  cases d3 <;> (try (simp [puM] at ho; done))
  rename_i kd c
  cases kd <;> (try (simp [puM] at ho; done))
  cases c with
  | negSucc c => simp [puM] at ho
  | ofNat c =>
    simp only [puM] at ho
    cases hb : Nat.blt c 256 with
    | false => rw [hb] at ho; cases ho
    | true =>
      rw [hb] at ho
      injection ho with ho; injection ho with h1 h2
      subst h1 h2
      have hc : c < 256 := by have := Nat.le_of_ble_eq_true hb; omega
      have hm : l = [.i .i64 (ixbL c s.data.toList 0)] := by
        have : ∀ M, resL (setD (argsF [.s s, .i .u8 (.ofNat c)] 0 .lf) (some q2) (.i .i64 (ixbL c s.data.toList 0))) M [.tmp q2] = some [.i .i64 (ixbL c s.data.toList 0)] := by
          simp [resL, IRes.ev, setD, T.get_set]
        rw [show Fix.res = [.tmp q2] from rfl, this] at hres
        exact (Option.some.inj hres).symm
      subst hm
      refine (index_any s c w).mono ?_
      rintro e w' ⟨rfl, rfl⟩
      refine ⟨_, β, rfl, ?_, .refl hi⟩
      rw [ixbL_eq c hc s.data.toList 0 _ rfl]
      have hge : (if Lib.indexByte s.data.toList c.toUInt8 = -1 then (-1 : Int) else Lib.indexByte s.data.toList c.toUInt8 + ((0 : Nat) : Int)) = Lib.indexByte s.data.toList (Int.ofNat c).toNat.toUInt8 := by
        show _ = Lib.indexByte s.data.toList c.toUInt8
        split
        · rename_i h; exact h.symm
        · simp
      rw [hge]
      exact .i _ _
/-- A cell of a block of one's own. -/
theorem own_cell {β : BM} {M : MH} {w : World} (hi : Inv β M w) {id i sz : Nat} {c : T MV} (ho : M.get id = some (.cs false sz c)) {x : MV} (hx : cget c i = some x) : ∃ B v, β id = some B ∧ w.cell? ⟨B.blk, B.off + i, none⟩ = some v ∧ Den β x v ∧ w.frozen? ⟨B.blk, B.off + i, none⟩ = false := by
  obtain ⟨B, hB, hO⟩ := hi.obj id _ ho
  obtain ⟨arr, t, fr, h1, h2, h3, h4⟩ := hO
  obtain ⟨v, hv, hd⟩ := h4 i x hx
  have hlt := (Array.getElem?_eq_some_iff.1 hv).1
  exact ⟨B, v, hB, by simp [World.cell?, h1, hv], hd, thawed h1 h2 hlt⟩
/-- One cell of a block of one's own is written. -/
theorem write_one {β : BM} {M M' : MH} {w : World} (hi : Inv β M w) {call : CallM} {f : Fr} {x y : X} {id off : Nat} {m r : MV} {B : Bl} {v : Value} (hx : x.ev f = .p id off) (hy : y.ev f = m) (hm : m.cells = [m]) (hd : Den β m v) (hB : β id = some B) (h : (Iop.st 1 x y).ev call f M = some (r, M')) :
    ∃ sz c, M.get id = some (.cs false sz c) ∧ (∃ q, cget c off = some q) ∧ M' = M.set id (some (.cs false sz (setN [m] off c))) ∧ Step β β M M' w (w.setCell ⟨B.blk, B.off + off, none⟩ v) := by
  simp only [Iop.ev] at h
  rw [hx, hy] at h
  simp only [hm] at h
  cases hg : M.get id with
  | none => rw [hg] at h; cases h
  | some o =>
    rw [hg] at h
    cases o with
    | mp es ck => cases h
    | cs ro sz c =>
      cases ro with
      | true => cases h
      | false =>
        simp only at h
        cases hb : (([m].length == 1) && !isU m && allOne [m] && Nat.ble M.lo id && hasB c 1 off) with
        | false => rw [hb] at h; cases h
        | true =>
          rw [hb] at h
          injection h with h; injection h with h1 h2
          simp only [Bool.and_eq_true] at hb
          have hh := hasB_ok hb.2
          obtain ⟨B', hB', ht, hs⟩ := write_cells (l := [m]) (vs := [v]) hi hg (Nat.le_of_ble_eq_true hb.1.2) (.cons hd (.nil β)) hh
          rw [hB] at hB'
          injection hB' with hB'
          subst hB'
          refine ⟨sz, c, rfl, Option.isSome_iff_exists.1 (hh 0 (by omega)), h2.symm, ?_⟩
          rw [← h2]
          exact hs
theorem eql_inv {k k' : IntKind} {a b : Int} {r : MV} (h : Ev.binI .eql k a k' b = some r) : k = k' ∧ r = .b (a == b) := by
  simp only [Ev.binI] at h
  cases hk : (k == k') with
  | false => rw [hk] at h; cases h
  | true =>
    rw [hk] at h
    injection h with h
    exact ⟨by simpa using hk, h.symm⟩
def Fonce : IFn := ⟨2, [], .seq (.reg [⟨some q4, none, .ld1 (.t q0)⟩, ⟨some q5, none, .binI .eql (.t q4) (.c (.i .u32 0))⟩, ⟨some q6, none, .binN .fn .eql (.t q1) (.c .nilf)⟩]) (.cond (.t q5) (.seq (.reg [⟨some q7, none, .fa 1 (.t q0)⟩, ⟨some q8, none, .ld1 (.t q7)⟩, ⟨some q9, none, .binI .eql (.t q8) (.c (.i .i32 0))⟩]) (.cond (.t q9) (.seq (.reg [⟨none, none, .st 1 (.t q7) (.c (.i .i32 1))⟩, ⟨some q10, none, .callv (.t q1) []⟩, ⟨some q11, none, .ld1 (.t q7)⟩, ⟨some q12, none, .binI .eql (.t q11) (.c (.i .i32 1))⟩]) (.cond (.t q12) (.reg [⟨none, none, .st 1 (.t q0) (.c (.i .u32 1))⟩, ⟨none, none, .st 1 (.t q7) (.c (.i .i32 0))⟩]) .bad)) .bad)) .skip)⟩
set_option maxRecDepth 100000 in
set_option maxHeartbeats 1600000 in
theorem sem_once : SemF Tryz.prog 63 Fonce := by
  intro fns n hg hlow args M M' m h
  obtain ⟨hlen, ex, f', l, hrun, hres, rfl⟩ := inv_call hg h
  clear h
  have hl0 : l = [] := (Option.some.inj hres).symm
  subst hl0
  clear hres
  obtain ⟨k0, j0, f1, M1, hk0, hj0, hl, hr⟩ := inv_seq hrun
  clear hrun
  obtain ⟨m4, Ma, o1, hl1⟩ := inv_op hl
  obtain ⟨m5, Mb, o2, hl2⟩ := inv_op hl1
  obtain ⟨m6, Mc, o3, hl3⟩ := inv_op hl2
  obtain ⟨rfl, rfl⟩ := inv_end hl3
  clear hl hl1 hl2 hl3
  have a0 := arg_at args 0
  have a1 := arg_at args 1
  rw [← show q0 = path 0 from by kernel_rfl] at a0
  rw [← show q1 = path 1 from by kernel_rfl] at a1
  have e1 : ∀ (f : Fr) (d p : Ky) (m : MV), (setD f (some d) m).get p = if d = p then some m else f.get p := fun f d p m => by simp [setD, T.get_set]
  simp only [Iop.ev, X.ev, e1, a0, a1] at o1 o2 o3
  simp only [show ¬ q4 = q0 from by decide, show ¬ q4 = q1 from by decide, show ¬ q5 = q1 from by decide, if_true, if_false, a0, a1] at o1 o2 o3
  refine ⟨⟨Tryz.f63, _, Tryz.func63, by kernel_rfl, rfl⟩, fun β w vs hgl hi hd => ?_⟩
  have hxy : ∃ id off y, args = [.p id off, y] := by
    match args, hlen, o1, o3 with
    | [], _, o1, _ => cases o1
    | [x], _, _, o3 => simp [nilR] at o3
    | x :: y :: z :: r, hlen, _, _ => exact absurd hlen (by simp [Fonce])
    | [x, y], _, o1, _ =>
      cases x <;> (try (simp at o1; done))
      exact ⟨_, _, _, rfl⟩
  obtain ⟨id, off, y, rfl⟩ := hxy
  have hMc : Mc = Mb := by
    split at o3
    · split at o3
      · injection o3 with o3; injection o3 with _ o3; exact o3.symm
      · cases o3
    · cases o3
  subst hMc
  clear hlen o3
  simp only [List.getElem?_cons_zero, List.getElem?_cons_succ] at o1 a0 a1
  obtain ⟨v, ws, rfl, d1, d2⟩ := hd.inv
  clear hd
  obtain ⟨v2, ws2, rfl, d3, d4⟩ := d2.inv
  clear d2
  cases d4.inv0
  clear d4
  cases d1 with
  | p _ _ B hB =>
  cases hgo : M.get id with
  | none => rw [hgo] at o1; cases o1
  | some o =>
  cases o with
  | mp es ck => rw [hgo] at o1; cases o1
  | cs ro sz c =>
  rw [hgo] at o1
  simp only at o1
  cases hc0 : cget c off with
  | none => rw [hc0] at o1; cases o1
  | some x0 =>
  rw [hc0] at o1
  injection o1 with o1; injection o1 with h1 h2
  subst h1 h2
  cases x0 <;> (try (simp at o2; done))
  rename_i kd d
  simp only at o2
  cases hbi : Ev.binI .eql kd d .u32 0 with
  | none => rw [hbi] at o2; cases o2
  | some r5 =>
  obtain ⟨rfl, rfl⟩ := eql_inv hbi
  rw [hbi] at o2
  injection o2 with o2; injection o2 with h1 h2
  subst h1 h2
  obtain ⟨B', hB', hrd⟩ := read_cells hi hgo
  rw [hB] at hB'
  injection hB' with hB'
  subst hB'
  obtain ⟨vd, hvd, hdd⟩ := hrd off _ hc0
  cases hdd
  generalize hf1 : setD (setD (setD (argsF [.p id off, y] 0 .lf) (some q4) (.i .u32 d)) (some q5) (.b (d == 0))) (some q6) m6 = fa at hr
  have g0 : fa.get q0 = some (.p id off) := by
    rw [← hf1, e1, e1, e1, if_neg (by decide), if_neg (by decide), if_neg (by decide)]; exact a0
  have g1 : fa.get q1 = some y := by
    rw [← hf1, e1, e1, e1, if_neg (by decide), if_neg (by decide), if_neg (by decide)]; exact a1
  have g5 : fa.get q5 = some (.b (d == 0)) := by
    rw [← hf1, e1, e1, if_neg (by decide), if_pos rfl]
  clear hf1 a0 a1
  obtain ⟨k1, hk1, hcnd⟩ := inv_cond hr
  clear hr
  simp only [X.ev, g5] at hcnd
  rcases hcnd with ⟨hx, hr⟩ | ⟨hx, hr⟩
  case inr =>
    obtain ⟨rfl, rfl, rfl⟩ := inv_skip hr
    injection hx with hx
    refine (do_done ⟨B.blk, B.off + off, none⟩ d (by simpa using hx) v2 w hvd).mono ?_
    rintro e w' ⟨rfl, rfl⟩
    exact ⟨_, β, rfl, DenL.tuple (.nil _), .refl hi⟩
  injection hx with hx
  have hd0 : d = 0 := by simpa using hx
  subst hd0
  clear hx
  obtain ⟨k2, j2, fb, M2, hk2, hj2, hl, hr2⟩ := inv_seq hr
  clear hr
  obtain ⟨m7, Ma, p1, hl1⟩ := inv_op hl
  obtain ⟨m8, Mb, p2, hl2⟩ := inv_op hl1
  obtain ⟨m9, Mc, p3, hl3⟩ := inv_op hl2
  obtain ⟨rfl, rfl⟩ := inv_end hl3
  clear hl hl1 hl2 hl3
  simp only [Iop.ev, X.ev, e1] at p1 p2 p3
  simp only [show ¬ q7 = q8 from by decide, show ¬ q8 = q7 from by decide, if_true, if_false, g0] at p1 p2 p3
  injection p1 with p1; injection p1 with h1 h2
  subst h1 h2
  simp only [hgo] at p2
  cases hc1 : cget c (off + 1) with
  | none => rw [hc1] at p2; cases p2
  | some x1 =>
  rw [hc1] at p2
  injection p2 with p2; injection p2 with h1 h2
  subst h1 h2
  cases x1 <;> (try (simp at p3; done))
  rename_i kd d
  simp only at p3
  cases hbi : Ev.binI .eql kd d .i32 0 with
  | none => rw [hbi] at p3; cases p3
  | some r9 =>
  obtain ⟨rfl, rfl⟩ := eql_inv hbi
  rw [hbi] at p3
  injection p3 with p3; injection p3 with h1 h2
  subst h1 h2
  obtain ⟨vs1, hvs1, hds1⟩ := hrd (off + 1) _ hc1
  cases hds1
  generalize hf2 : setD (setD (setD fa (some q7) (.p id (off + 1))) (some q8) (.i .i32 d)) (some q9) (.b (d == 0)) = fc at hr2
  have g0 : fc.get q0 = some (.p id off) := by
    rw [← hf2, e1, e1, e1, if_neg (by decide), if_neg (by decide), if_neg (by decide)]; exact g0
  have g1 : fc.get q1 = some y := by
    rw [← hf2, e1, e1, e1, if_neg (by decide), if_neg (by decide), if_neg (by decide)]; exact g1
  have g7 : fc.get q7 = some (.p id (off + 1)) := by
    rw [← hf2, e1, e1, e1, if_neg (by decide), if_neg (by decide), if_pos rfl]
  have g9 : fc.get q9 = some (.b (d == 0)) := by
    rw [← hf2, e1, if_pos rfl]
  clear hf2 g5
  obtain ⟨k3, hk3, hcnd⟩ := inv_cond hr2
  clear hr2
  simp only [X.ev, g9] at hcnd
  rcases hcnd with ⟨hx, hr⟩ | ⟨hx, hr⟩
  case inr => exact (inv_bad hr).elim
  injection hx with hx
  have hd0 : d = 0 := by simpa using hx
  subst hd0
  clear hx g9
  obtain ⟨k4, j4, fd, M3, hk4, hj4, hl, hr2⟩ := inv_seq hr
  clear hr
  obtain ⟨m10, Ma, s1, hl1⟩ := inv_op hl
  obtain ⟨m11, Mb, s2, hl2⟩ := inv_op hl1
  obtain ⟨m12, Mc, s3, hl3⟩ := inv_op hl2
  obtain ⟨m13, Md, s4, hl4⟩ := inv_op hl3
  obtain ⟨rfl, rfl⟩ := inv_end hl4
  clear hl hl1 hl2 hl3 hl4
  obtain ⟨sz1, c1, q1', -, hM1, hst1⟩ := write_one (v := .int .i32 1) hi (id := id) (off := off + 1) (m := .i .i32 1) (B := B) (by simp only [X.ev, g7]) rfl rfl (.i _ _) hB s1
  rw [hgo] at q1'
  injection q1' with q1'
  injection q1' with r1 r2 r3
  subst r1 r2 r3
  clear s1
  have hfro : w.frozen? ⟨B.blk, B.off + (off + 1), none⟩ = false := by
    obtain ⟨B', v', hB', -, -, hz⟩ := own_cell hi hgo hc1
    rw [hB] at hB'
    injection hB' with hB'
    subst hB'
    exact hz
  have e2 : ∀ (f : Fr) (m : MV), setD f none m = f := fun _ _ => rfl
  simp only [e2] at s2 s3 s4 hr2
  simp only [Iop.ev, X.ev, g1] at s2
  cases y <;> (try (simp at s2; done))
  rename_i fn0 ya yc zz
  clear zz
  cases fn0 <;> (try (simp at s2; done))
  rename_i g
  simp only [List.map_nil, List.nil_append] at s2
  obtain ⟨⟨fn, cd, hfn, hnm, hbd⟩, hcall⟩ := hlow k4 (by omega) g _ _ _ _ s2
  cases d3 with
  | fn _ _ _ va vc hda hdc n1 n2 =>
  have hall := (denL_of hda n1).append (denL_of hdc n2)
  have hc := hcall β _ _ hgl hst1.inv hall
  clear s2
  -- behind the call
  simp only [Iop.ev, X.ev, e1] at s3 s4
  simp only [show ¬ q10 = q7 from by decide, show ¬ q11 = q12 from by decide, if_true, if_false, g7] at s3 s4
  cases hgb : Mb.get id with
  | none => rw [hgb] at s3; cases s3
  | some o =>
  cases o with
  | mp es ck => rw [hgb] at s3; cases s3
  | cs ro2 sz2 c2 =>
  rw [hgb] at s3
  simp only at s3
  cases hc2 : cget c2 (off + 1) with
  | none => rw [hc2] at s3; cases s3
  | some x2 =>
  rw [hc2] at s3
  injection s3 with s3; injection s3 with h1 h2
  subst h1 h2
  cases x2 <;> (try (simp at s4; done))
  rename_i kd d
  simp only at s4
  cases hbi : Ev.binI .eql kd d .i32 1 with
  | none => rw [hbi] at s4; cases s4
  | some r13 =>
  obtain ⟨rfl, rfl⟩ := eql_inv hbi
  rw [hbi] at s4
  injection s4 with s4; injection s4 with h1 h2
  subst h1 h2
  generalize hf3 : setD (setD (setD fc (some q10) m11) (some q11) (.i .i32 d)) (some q12) (.b (d == 1)) = fe at hr2
  have g0 : fe.get q0 = some (.p id off) := by
    rw [← hf3, e1, e1, e1, if_neg (by decide), if_neg (by decide), if_neg (by decide)]; exact g0
  have g7 : fe.get q7 = some (.p id (off + 1)) := by
    rw [← hf3, e1, e1, e1, if_neg (by decide), if_neg (by decide), if_neg (by decide)]; exact g7
  have g12 : fe.get q12 = some (.b (d == 1)) := by
    rw [← hf3, e1, if_pos rfl]
  clear hf3
  obtain ⟨k5, hk5, hcnd⟩ := inv_cond hr2
  clear hr2
  simp only [X.ev, g12] at hcnd
  rcases hcnd with ⟨hx, hr⟩ | ⟨hx, hr⟩
  case inr => exact (inv_bad hr).elim
  injection hx with hx
  have hd0 : d = 1 := by simpa using hx
  subst hd0
  clear hx g12
  obtain ⟨k6, -, rfl, hl⟩ := inv_reg hr
  obtain ⟨m14, Me, t1, hl1⟩ := inv_op hl
  obtain ⟨m15, Mf, t2, hl2⟩ := inv_op hl1
  obtain ⟨rfl, rfl⟩ := inv_end hl2
  clear hl hl1 hl2 hr
  -- what is known of the memory behind the call
  have hwr : ∀ β' w', Inv β' Mb w' → β' id = some B → ∃ x, (∃ v, w'.cell? ⟨B.blk, B.off + off, none⟩ = some v ∧ Den β' x v) ∧ w'.frozen? ⟨B.blk, B.off + off, none⟩ = false ∧ w'.cell? ⟨B.blk, B.off + (off + 1), none⟩ = some (.int .i32 1) ∧ w'.frozen? ⟨B.blk, B.off + (off + 1), none⟩ = false := by
    intro β' w' hi' hB'
    obtain ⟨sz3, c3, u1, ⟨x, u2⟩, -, -⟩ := write_one (v := .int .u32 1) hi' (id := id) (off := off) (m := .i .u32 1) (B := B) (by simp only [X.ev, g0]) rfl rfl (.i _ _) hB' t1
    rw [hgb] at u1
    injection u1 with u1
    injection u1 with u3 u4 u5
    subst u3 u4 u5
    obtain ⟨B1, v1, y1, y2, y3, y4⟩ := own_cell hi' hgb u2
    rw [hB'] at y1
    injection y1 with y1
    subst y1
    obtain ⟨B2, v2, z1, z2, z3, z4⟩ := own_cell hi' hgb hc2
    rw [hB'] at z1
    injection z1 with z1
    subst z1
    cases z3
    exact ⟨x, ⟨v1, y2, y3⟩, y4, z2, z4⟩
  refine (do_first B.blk (B.off + off) g fn cd hfn hnm hbd va vc (fun v w' => ∃ β', Step β β' Ma Mb (w.setCell ⟨B.blk, B.off + (off + 1), none⟩ (.int .i32 1)) w') w hvd hvs1 hfro ?_ ?_).mono ?_
  · have hva : (va.toList ++ vc.toList).toArray = va ++ vc := by simp
    rw [hva] at hc
    exact hc.mono fun e w' ⟨v, β', he, _, hs⟩ => ⟨v, he, β', hs⟩
  · rintro v w' ⟨β', hs⟩
    obtain ⟨x, ⟨v', y1, -⟩, y2, y3, y4⟩ := hwr β' w' hs.inv (hs.ext _ _ hB)
    exact ⟨⟨v', y1⟩, y2, y3, y4⟩
  · rintro e w' ⟨rfl, v, w1, ⟨β', hs⟩, rfl⟩
    refine ⟨_, β', rfl, DenL.tuple (.nil _), ?_⟩
    have hB2 := hs.ext _ _ hB
    have hdr := Step.drew hs.inv
    obtain ⟨-, -, -, -, -, st1⟩ := write_one (v := .int .u32 1) hdr.inv (id := id) (off := off) (m := .i .u32 1) (B := B) (by simp only [X.ev, g0]) rfl rfl (.i _ _) hB2 t1
    obtain ⟨-, -, -, -, -, st2⟩ := write_one (v := .int .i32 0) st1.inv (id := id) (off := off + 1) (m := .i .i32 0) (B := B) (by simp only [X.ev, e2, g7]) rfl rfl (.i _ _) hB2 t2
    exact hst1.trans (hs.trans (hdr.trans (st1.trans st2)))
end Go.Proofs.YtnplnpemnadpoaaGreatDoor.Ev
