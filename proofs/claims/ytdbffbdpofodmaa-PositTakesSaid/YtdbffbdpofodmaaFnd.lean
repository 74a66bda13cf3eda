/-
  Whether one of a list of places took the last byte. Conditions: the list lies below the walk's rows.
-/
import Derived.Test.YtdbffbdpofodmaaStp
set_option linter.unusedSimpArgs false
namespace Go.Proofs.Ytdbffbdpofodmaa
open Go Go.RowKit Kit
def isAtV (b : Nat) : Value := .func (.func 31) #[ptr b] #[]
def FndSaid (l : List Nat) (T : List Nat) (k : Nat) (w : World) (e : Ending) (w' : World) : Prop :=
  ∃ r : Int, e = .returned (.int .i64 r) ∧ decide (0 ≤ r) = l.any (fun x => decide (T[x]? = some k)) ∧ Kept w w'
set_option maxRecDepth 100000 in
set_option maxHeartbeats 4000000 in
theorem find_any (b base : Nat) (p0 p2 p3 p4 : Value) (p : Pt) (st : Ps) (k : Nat) (vn vs vt : Value) (N M T : List Nat) (A : Option Addr) (ca : Nat) (l : List Nat) (w : World) (h : TkS b base w p0 p2 p3 p4 p st k vn vs vt N M T) (hl : Ls (· < base) w (.slice A l.length ca) (ints l)) (hll : l.length ≤ 9223372036854775807) : Calls Try.prog 47 #[.slice A l.length ca, isAtV b] w (FndSaid l T k w) := by
  have HL := Lib.hid hl
  have H := Lib.hid h
  obtain ⟨AT, cT, rfl⟩ := h.taken.form
  clear h hl
  unfold isAtV ptr FndSaid
  go_enter Try.func47, Try.ntmps47
  go_wp2_with fail
  go_loopw [8] (fun vi wr => ∃ (j : Nat), vi = .int .i64 j ∧ j ≤ l.length ∧ (l.drop j).any (fun x => decide (T[x]? = some k)) = l.any (fun x => decide (T[x]? = some k)) ∧ Kept w wr) (fun vi _ => l.length - (intOf vi).toNat)
  case atStart => exact ⟨0, rfl, Nat.zero_le _, rfl, Kept.refl _⟩
  case round =>
    obtain ⟨j, rfl, hj, hr, hkr⟩ := hrel
    have HR := Lib.hid hr
    have HK := Lib.hid hkr
    clear hr hkr
    have hj0 : (0 : Int) ≤ j := by omega
    by_cases hlt : j < l.length
    · have hlti : (j : Int) < l.length := by omega
      have hjb : (j : Int) + 1 ≤ 9223372036854775807 := by omega
      obtain ⟨i, hi⟩ : ∃ i, l[j]? = some i := ⟨_, List.getElem?_eq_getElem hlt⟩
      obtain ⟨q, o, rfl, hqb, hci⟩ := (HL.out.kept HK.out).at (ints_get hi)
      have hd := drop_at hi
      have hun := HR.out
      rw [hd, List.any_cons] at hun
      have HUN := Lib.hid hun
      clear hd hun HR hi
      go_wp2_with fail
      refine (isAt_any b i _ AT _ cT k T p0 p2 p3 p4 vn vs p.null wr (H.out.kept HK.out).obj (H.out.kept HK.out).taken.ls).mono ?_
      rintro e w5 ⟨rfl, hk5⟩
      have HK5 := Lib.hid (HK.out.trans hk5)
      clear hk5 hci
      by_cases hat : T[i]? = some k
      · rw [decide_eq_true hat]
        have HRN : Hid (l.any (fun x => decide (T[x]? = some k)) = true) := Lib.hid (by rw [← HUN.out, decide_eq_true hat]; rfl)
        clear HUN
        go_wp2_with fail
        go_ret
        exact ⟨(j : Int), rfl, by rw [HRN.out, decide_eq_true hj0], HK5.out⟩
      · rw [decide_eq_false hat]
        have HRN : Hid ((l.drop (j + 1)).any (fun x => decide (T[x]? = some k)) = l.any (fun x => decide (T[x]? = some k))) := Lib.hid (by rw [← HUN.out, decide_eq_false hat]; rfl)
        clear HUN
        go_wp2_with fail
        go_roundw
        case rel => exact ⟨j + 1, by go_num, by omega, HRN.out, HK5.out⟩
        case measure => simp [intOf]; omega
    · have hge : ¬ (j : Int) < l.length := by omega
      have hE : l.any (fun x => decide (T[x]? = some k)) = false := by rw [← HR.out, List.drop_eq_nil_of_le (by omega), List.any_nil]
      have HE := Lib.hid hE
      clear hE HR
      go_wp2_with fail
      go_ret
      exact ⟨-1, rfl, by rw [HE.out]; rfl, HK.out⟩
set_option maxHeartbeats 4000000 in
theorem contains_any (b base : Nat) (p0 p2 p3 p4 : Value) (p : Pt) (st : Ps) (k : Nat) (vn vs vt : Value) (N M T : List Nat) (A : Option Addr) (ca : Nat) (l : List Nat) (w : World) (h : TkS b base w p0 p2 p3 p4 p st k vn vs vt N M T) (hl : Ls (· < base) w (.slice A l.length ca) (ints l)) (hll : l.length ≤ 9223372036854775807) : Calls Try.prog 30 #[.slice A l.length ca, isAtV b] w fun e w' => e = .returned (.bool (l.any (fun x => decide (T[x]? = some k)))) ∧ Kept w w' := by
  have HL := Lib.hid hl
  have H := Lib.hid h
  have hi0 : isAtV b = isAtV b := rfl
  clear h hl
  generalize hv : isAtV b = v at *
  go_enter Try.func30, Try.ntmps30
  go_wp2_with fail
  rw [← hv]
  refine (find_any b base p0 p2 p3 p4 p st k vn vs vt N M T A ca l _ H.out HL.out hll).mono ?_
  rintro e w5 ⟨r, rfl, hr, hk⟩
  have HR := Lib.hid hr
  clear hr
  by_cases h0 : 0 ≤ r
  · have hb : l.any (fun x => decide (T[x]? = some k)) = true := by rw [← HR.out, decide_eq_true h0]
    have HBB := Lib.hid hb
    clear hb
    go_wp2_with fail
    go_ret
    exact ⟨by simp [HR.out.symm, h0], hk⟩
  · have hb : l.any (fun x => decide (T[x]? = some k)) = false := by rw [← HR.out, decide_eq_false h0]
    have HBB := Lib.hid hb
    clear hb
    go_wp2_with fail
    go_ret
    exact ⟨by simp [HR.out.symm, h0], hk⟩
end Go.Proofs.Ytdbffbdpofodmaa
