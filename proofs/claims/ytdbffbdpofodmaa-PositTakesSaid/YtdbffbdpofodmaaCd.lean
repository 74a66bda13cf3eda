/-
  How many places the document counts of a pattern, and how deep it finds it. Conditions: the pattern is less than 10^12 deep.
-/
import Derived.Test.YtdbffbdpofodmaaRx
set_option linter.unusedSimpArgs false
namespace Go.Proofs.Ytdbffbdpofodmaa
open Go Go.RowKit Kit
def PlSaid (x : Rx) (w : World) (e : Ending) (w' : World) : Prop := ∃ n : Nat, e = .returned (.int .i64 n) ∧ (n ≤ 150 → n = cnt x) ∧ (150 < n → 150 < cnt x) ∧ n ≤ 151 * deep x ∧ Kept w w'
def DeSaid (x : Rx) (w : World) (e : Ending) (w' : World) : Prop := e = .returned (.int .i64 (deep x : Nat)) ∧ Kept w w'
def NF (L : List Rx) (i n : Nat) : Prop := (n ≤ 150 → n = cntL (L.take i)) ∧ (150 < n → 150 < cntL (L.take i)) ∧ n ≤ 150 + 151 * deepL L
theorem NF.end {L : List Rx} {i n : Nat} (h : NF L i n) (hi : L.length ≤ i ∨ 150 < n) : (n ≤ 150 → n = cntL L) ∧ (150 < n → 150 < cntL L) ∧ n ≤ 151 * (deepL L + 1) := by
  obtain ⟨h1, h2, h3⟩ := h
  refine ⟨fun hn => ?_, fun hn => ?_, by omega⟩
  · rcases hi with hi | hi
    · rw [h1 hn, List.take_of_length_le hi]
    · omega
  · have := h2 hn
    have := cntL_take_le L i
    omega
theorem NF.step {L : List Rx} {i n m : Nat} {x : Rx} (h : NF L i n) (hx : L[i]? = some x) (hn : n ≤ 150) (h1 : m ≤ 150 → m = cnt x) (h2 : 150 < m → 150 < cnt x) (h3 : m ≤ 151 * deep x) : NF L (i + 1) (n + m) := by
  obtain ⟨a, b, c⟩ := h
  have e := a hn
  have hd := deepL_mem hx
  refine ⟨fun hm => ?_, fun hm => ?_, ?_⟩
  · rw [take_at hx, cntL_snoc, ← e, ← h1 (by omega)]
  · rw [take_at hx, cntL_snoc, ← e]
    by_cases hm2 : m ≤ 150
    · rw [← h1 hm2]; exact hm
    · have := h2 (by omega); omega
  · have : 151 * deep x ≤ 151 * deepL L := Nat.mul_le_mul_left _ hd
    omega
theorem NF.zero (L : List Rx) : NF L 0 0 := ⟨fun _ => by simp [cntL], fun h => by omega, by omega⟩
def DF (L : List Rx) (i n : Nat) : Prop := n = deepL (L.take i)
theorem DF.zero (L : List Rx) : DF L 0 0 := by unfold DF; simp [deepL]
theorem DF.end {L : List Rx} {i n : Nat} (h : DF L i n) (hi : L.length ≤ i) : n = deepL L := by unfold DF at h; rwa [List.take_of_length_le hi] at h
theorem DF.step {L : List Rx} {i n : Nat} {x : Rx} (h : DF L i n) (hx : L[i]? = some x) : DF L (i + 1) (max n (deep x)) := by
  unfold DF at *
  rw [take_at hx, deepL_snoc, ← h]
set_option maxRecDepth 100000 in
set_option maxHeartbeats 8000000 in
theorem places_any {S : Nat → Prop} {w : World} {u : Value} {z : Rx} (hu : RxAt S w u z) : ∀ (w1 : World), Kept w w1 → deep z ≤ 1000000000000 → Calls Try.prog 23 #[u] w1 (PlSaid z w1) := by
  induction hu with
  | mk op x kids A cap vs h1 h2 hc hk ih =>
    intro w1 hw hd
    have HI := Lib.hid (And.intro ih (And.intro hc hk))
    have HW := Lib.hid hw
    have HD := Lib.hid hd
    have HB := Lib.hid (blk_new w1 (.cells #[.int .i64 op, .int .u64 (wdN x 0), .int .u64 (wdN x 1), .int .u64 (wdN x 2), .int .u64 (wdN x 3), .slice A kids.length cap] 26))
    clear ih hc hk hw hd
    unfold maxLen at h2
    have hlm : (kids.length : Int) ≤ 9223372036854775807 := by omega
    unfold rx6
    obtain ⟨L, hLK⟩ : ∃ L, lk op kids = L := ⟨_, rfl⟩
    have HLK := Lib.hid hLK
    clear hLK
    by_cases hop1 : op = 1
    · subst hop1
      go_enter Try.func23, Try.ntmps23
      go_wp2
      go_ret
      exact ⟨1, rfl, fun _ => by rw [cnt, if_pos rfl], fun h => by omega, by rw [deep_eq]; omega, (Kept.refl _).alloc _⟩
    by_cases hr : op < 2 ∨ 6 < op
    · have hl0 : lk op kids = [] := by unfold lk; rw [if_neg (by omega), if_neg (by omega)]
      have HL0 := Lib.hid hl0
      clear hl0
      rcases hr with hr | hr
      all_goals
        go_enter Try.func23, Try.ntmps23
        go_wp2
        go_ret
        exact ⟨0, rfl, fun _ => by rw [cnt_eq _ _ _ hop1, HL0.out, cntL], fun h => by omega, Nat.zero_le _, (Kept.refl _).alloc _⟩
    have hlo : 2 ≤ op := by omega
    have hhi : op ≤ 6 := by omega
    by_cases h3 : op ≤ 3
    · have HLK2 : Hid (L = kids) := Lib.hid (by rw [← HLK.out]; unfold lk; rw [if_pos (by omega)])
      have hll : L.length ≤ kids.length := by rw [HLK2.out]; exact Nat.le_refl _
      have hll2 : L.length = kids.length := by rw [HLK2.out]
      go_enter Try.func23, Try.ntmps23
      go_wp2_with fail
      generalize hW : w1.alloc _ = W at HB ⊢
      have HW1 : Hid (Kept w1 W) := Lib.hid (by rw [← hW]; exact (Kept.refl _).alloc _)
      clear hW
      go_loopw [3, 4] (fun vn vi wr => ∃ n i : Nat, vn = .int .i64 n ∧ vi = .int .i64 i ∧ i ≤ L.length ∧ NF L i n ∧ Kept W wr) (fun _ vi _ => L.length - (intOf vi).toNat)
      case atStart => exact ⟨0, 0, rfl, rfl, Nat.zero_le _, NF.zero L, Kept.refl _⟩
      case round =>
        obtain ⟨n, i, rfl, rfl, hi, hnf, hkw⟩ := hrel
        have HN := Lib.hid hnf
        have HK := Lib.hid hkw
        clear hnf hkw
        obtain ⟨⟨a0, a1, a2, a3, a4, a5⟩, -⟩ := box6 (HK.out.blk HB.out)
        by_cases hlt : i < kids.length
        case neg =>
          have hge : ¬ (i : Int) < kids.length := by omega
          go_wp2_with fail
          go_ret
          obtain ⟨q1, q2, q3⟩ := HN.out.end (.inl (by omega))
          exact ⟨n, rfl, by rw [cnt_eq _ _ _ hop1, HLK.out]; exact q1, by rw [cnt_eq _ _ _ hop1, HLK.out]; exact q2, by rw [deep_eq, HLK.out]; exact q3, HW1.out.trans HK.out⟩
        have hlti0 : (i : Int) < kids.length := by omega
        by_cases hi0 : i = 0
        · subst hi0
          rw [show ((0 : Nat) : Int) = 0 from rfl]

          by_cases hn : n ≤ 150
          case neg =>
            have hnb : ¬ (n : Int) ≤ 150 := by omega
            go_wp2_with fail
            go_ret
            obtain ⟨q1, q2, q3⟩ := HN.out.end (.inr (by omega))
            exact ⟨n, rfl, by rw [cnt_eq _ _ _ hop1, HLK.out]; exact q1, by rw [cnt_eq _ _ _ hop1, HLK.out]; exact q2, by rw [deep_eq, HLK.out]; exact q3, HW1.out.trans HK.out⟩
          have hL : L[0]? = some kids[0] := HLK2.out ▸ List.getElem?_eq_getElem hlt
          have hj : kids[0]? = some kids[0] := List.getElem?_eq_getElem hlt
          obtain ⟨p, o, rfl, -, e0, e1, e2, e3, e4, e5, hv, c0, c1, c2, c3, c4, c5⟩ := HI.out.2.1 0 _ hj
          have hkw2 := HW.out.trans (HW1.out.trans HK.out)
          have C0 := hkw2.cell c0
          have C1 := hkw2.cell c1
          have C2 := hkw2.cell c2
          have C3 := hkw2.cell c3
          have C4 := hkw2.cell c4
          have C5 := hkw2.cell c5
          simp only [Nat.zero_mul, Nat.add_zero] at C0 C1 C2 C3 C4 C5
          have hdl : deep kids[0] + 1 ≤ 1000000000000 := by have := deepL_mem hL; have h := HD.out; rw [deep_eq, HLK.out] at h; omega
          have hcall := HI.out.1 0 _ hj wr hkw2 (by omega)
          rw [hv] at hcall
          have HC := Lib.hid hcall
          have HL := Lib.hid hL
          have hlti : (0 : Int) < kids.length := by omega
          clear hcall hkw2 c0 c1 c2 c3 c4 c5 hj hv hL
          generalize kids[0] = y at HC HL hdl
          have hnb : (n : Int) ≤ 150 := by omega
          go_wp2_with fail
          refine HC.out.mono ?_
          rintro e w5 ⟨m, rfl, q1, q2, q3, q4⟩
          have HNN := Lib.hid (HN.out.step HL.out hn q1 q2 q3)
          have hmb : (m : Int) ≤ 151000000000000 := by omega
          have HKN := Lib.hid (HK.out.trans q4)
          clear q1 q2 q3 q4 HC C0 C1 C2 C3 C4 C5 a0 a1 a2 a3 a4 a5
          go_wp2_with fail
          go_roundw
          case rel => exact ⟨n + m, 0 + 1, by go_num, by first | rfl | go_num, by omega, HNN.out, HKN.out⟩
          case measure => simp [intOf]; omega
        · have hi0i : ¬ (i : Int) = 0 := by omega
          by_cases hn : n ≤ 150
          case neg =>
            have hnb : ¬ (n : Int) ≤ 150 := by omega
            go_wp2_with fail
            go_ret
            obtain ⟨q1, q2, q3⟩ := HN.out.end (.inr (by omega))
            exact ⟨n, rfl, by rw [cnt_eq _ _ _ hop1, HLK.out]; exact q1, by rw [cnt_eq _ _ _ hop1, HLK.out]; exact q2, by rw [deep_eq, HLK.out]; exact q3, HW1.out.trans HK.out⟩
          have hL : L[i]? = some kids[i] := HLK2.out ▸ List.getElem?_eq_getElem hlt
          have hj : kids[i]? = some kids[i] := List.getElem?_eq_getElem hlt
          obtain ⟨p, o, rfl, -, e0, e1, e2, e3, e4, e5, hv, c0, c1, c2, c3, c4, c5⟩ := HI.out.2.1 i _ hj
          have hkw2 := HW.out.trans (HW1.out.trans HK.out)
          have C0 := hkw2.cell c0
          have C1 := hkw2.cell c1
          have C2 := hkw2.cell c2
          have C3 := hkw2.cell c3
          have C4 := hkw2.cell c4
          have C5 := hkw2.cell c5
          have hdl : deep kids[i] + 1 ≤ 1000000000000 := by have := deepL_mem hL; have h := HD.out; rw [deep_eq, HLK.out] at h; omega
          have hcall := HI.out.1 i _ hj wr hkw2 (by omega)
          rw [hv] at hcall
          have HC := Lib.hid hcall
          have HL := Lib.hid hL
          have hlti : (i : Int) < kids.length := by omega
          have hib : (i : Int) + 1 ≤ 9223372036854775807 := by omega
          clear hcall hkw2 c0 c1 c2 c3 c4 c5 hj hv hL
          generalize kids[i] = y at HC HL hdl
          have hnb : (n : Int) ≤ 150 := by omega
          go_wp2_with fail
          refine HC.out.mono ?_
          rintro e w5 ⟨m, rfl, q1, q2, q3, q4⟩
          have HNN := Lib.hid (HN.out.step HL.out hn q1 q2 q3)
          have hmb : (m : Int) ≤ 151000000000000 := by omega
          have HKN := Lib.hid (HK.out.trans q4)
          clear q1 q2 q3 q4 HC C0 C1 C2 C3 C4 C5 a0 a1 a2 a3 a4 a5
          go_wp2_with fail
          go_roundw
          case rel => exact ⟨n + m, i + 1, by go_num, by first | rfl | go_num, by omega, HNN.out, HKN.out⟩
          case measure => simp [intOf]; omega
    · have HLK2 : Hid (L = kids.take 1) := Lib.hid (by rw [← HLK.out]; unfold lk; rw [if_neg (by omega), if_pos (by omega)])
      have hll : L.length ≤ kids.length := by rw [HLK2.out]; rw [List.length_take]; omega
      have hll2 : 0 < kids.length → L.length = 1 := by rw [HLK2.out, List.length_take]; omega
      go_enter Try.func23, Try.ntmps23
      go_wp2_with fail
      generalize hW : w1.alloc _ = W at HB ⊢
      have HW1 : Hid (Kept w1 W) := Lib.hid (by rw [← hW]; exact (Kept.refl _).alloc _)
      clear hW
      go_loopw [3, 4] (fun vn vi wr => ∃ n i : Nat, vn = .int .i64 n ∧ vi = .int .i64 i ∧ i ≤ L.length ∧ NF L i n ∧ Kept W wr) (fun _ vi _ => L.length - (intOf vi).toNat)
      case atStart => exact ⟨0, 0, rfl, rfl, Nat.zero_le _, NF.zero L, Kept.refl _⟩
      case round =>
        obtain ⟨n, i, rfl, rfl, hi, hnf, hkw⟩ := hrel
        have HN := Lib.hid hnf
        have HK := Lib.hid hkw
        clear hnf hkw
        obtain ⟨⟨a0, a1, a2, a3, a4, a5⟩, -⟩ := box6 (HK.out.blk HB.out)
        by_cases hlt : i < kids.length
        case neg =>
          have hge : ¬ (i : Int) < kids.length := by omega
          go_wp2_with fail
          go_ret
          obtain ⟨q1, q2, q3⟩ := HN.out.end (.inl (by omega))
          exact ⟨n, rfl, by rw [cnt_eq _ _ _ hop1, HLK.out]; exact q1, by rw [cnt_eq _ _ _ hop1, HLK.out]; exact q2, by rw [deep_eq, HLK.out]; exact q3, HW1.out.trans HK.out⟩
        have hlti0 : (i : Int) < kids.length := by omega
        by_cases hi0 : i = 0
        case neg =>
          have hi0i : ¬ (i : Int) = 0 := by omega
          have hib0 : ((i : Int) == 0) = false := by simpa using hi0i
          have h3b : decide (op ≤ 3) = false := by simpa using h3
          go_wp2_with fail
          go_ret
          obtain ⟨q1, q2, q3⟩ := HN.out.end (.inl (by omega))
          exact ⟨n, rfl, by rw [cnt_eq _ _ _ hop1, HLK.out]; exact q1, by rw [cnt_eq _ _ _ hop1, HLK.out]; exact q2, by rw [deep_eq, HLK.out]; exact q3, HW1.out.trans HK.out⟩
        subst hi0
        rw [show ((0 : Nat) : Int) = 0 from rfl]
        by_cases hn : n ≤ 150
        case neg =>
          have hnb : ¬ (n : Int) ≤ 150 := by omega
          go_wp2_with fail
          go_ret
          obtain ⟨q1, q2, q3⟩ := HN.out.end (.inr (by omega))
          exact ⟨n, rfl, by rw [cnt_eq _ _ _ hop1, HLK.out]; exact q1, by rw [cnt_eq _ _ _ hop1, HLK.out]; exact q2, by rw [deep_eq, HLK.out]; exact q3, HW1.out.trans HK.out⟩
        have hL : L[0]? = some kids[0] := by rw [HLK2.out]; simp [List.getElem?_take, List.getElem?_eq_getElem hlt]
        have hj : kids[0]? = some kids[0] := List.getElem?_eq_getElem hlt
        obtain ⟨p, o, rfl, -, e0, e1, e2, e3, e4, e5, hv, c0, c1, c2, c3, c4, c5⟩ := HI.out.2.1 0 _ hj
        have hkw2 := HW.out.trans (HW1.out.trans HK.out)
        have C0 := hkw2.cell c0
        have C1 := hkw2.cell c1
        have C2 := hkw2.cell c2
        have C3 := hkw2.cell c3
        have C4 := hkw2.cell c4
        have C5 := hkw2.cell c5
        simp only [Nat.zero_mul, Nat.add_zero] at C0 C1 C2 C3 C4 C5
        have hdl : deep kids[0] + 1 ≤ 1000000000000 := by have := deepL_mem hL; have h := HD.out; rw [deep_eq, HLK.out] at h; omega
        have hcall := HI.out.1 0 _ hj wr hkw2 (by omega)
        rw [hv] at hcall
        have HC := Lib.hid hcall
        have HL := Lib.hid hL
        have hlti : (0 : Int) < kids.length := by omega
        clear hcall hkw2 c0 c1 c2 c3 c4 c5 hj hv hL
        generalize kids[0] = y at HC HL hdl
        have hnb : (n : Int) ≤ 150 := by omega
        go_wp2_with fail
        refine HC.out.mono ?_
        rintro e w5 ⟨m, rfl, q1, q2, q3, q4⟩
        have HNN := Lib.hid (HN.out.step HL.out hn q1 q2 q3)
        have hmb : (m : Int) ≤ 151000000000000 := by omega
        have HKN := Lib.hid (HK.out.trans q4)
        clear q1 q2 q3 q4 HC C0 C1 C2 C3 C4 C5 a0 a1 a2 a3 a4 a5
        go_wp2_with fail
        go_roundw
        case rel => exact ⟨n + m, 0 + 1, by go_num, by first | rfl | go_num, by omega, HNN.out, HKN.out⟩
        case measure => simp [intOf]; omega
set_option maxRecDepth 100000 in
set_option maxHeartbeats 8000000 in
theorem deep_any {S : Nat → Prop} {w : World} {u : Value} {z : Rx} (hu : RxAt S w u z) : ∀ (w1 : World), Kept w w1 → deep z ≤ 1000000000000 → Calls Try.prog 9 #[u] w1 (DeSaid z w1) := by
  induction hu with
  | mk op x kids A cap vs h1 h2 hc hk ih =>
    intro w1 hw hd
    have HI := Lib.hid (And.intro ih (And.intro hc hk))
    have HW := Lib.hid hw
    have HD := Lib.hid hd
    have HB := Lib.hid (blk_new w1 (.cells #[.int .i64 op, .int .u64 (wdN x 0), .int .u64 (wdN x 1), .int .u64 (wdN x 2), .int .u64 (wdN x 3), .slice A kids.length cap] 26))
    clear ih hc hk hw hd
    unfold maxLen at h2
    have hlm : (kids.length : Int) ≤ 9223372036854775807 := by omega
    unfold rx6
    obtain ⟨L, hLK⟩ : ∃ L, lk op kids = L := ⟨_, rfl⟩
    have HLK := Lib.hid hLK
    clear hLK
    by_cases hr : op < 2 ∨ 6 < op
    · have hl0 : lk op kids = [] := by unfold lk; rw [if_neg (by omega), if_neg (by omega)]
      have hdz : deep (.mk op x kids) = 1 := by rw [deep_eq, hl0, deepL]
      have HL0 := Lib.hid hdz
      clear hl0 hdz
      by_cases hk0 : kids.length = 0
      · rw [hk0] at HB ⊢
        unfold DeSaid
        rw [HL0.out]
        go_enter Try.func9, Try.ntmps9
        go_wp2_with fail
        generalize hW : w1.alloc _ = W at HB ⊢
        have HW1 : Hid (Kept w1 W) := Lib.hid (by rw [← hW]; exact (Kept.refl _).alloc _)
        clear hW
        go_loopw [3, 4] (fun vn vi wr => vn = .int .i64 0 ∧ vi = .int .i64 0 ∧ wr = W) (fun _ _ _ => 0)
        case atStart => exact ⟨rfl, rfl, rfl⟩
        case round =>
          obtain ⟨rfl, rfl, rfl⟩ := hrel
          obtain ⟨⟨a0, a1, a2, a3, a4, a5⟩, -⟩ := box6 HB.out
          go_wp2_with fail
          go_ret
          exact ⟨rfl, HW1.out⟩
      · have hki : (0 : Int) < kids.length := by omega
        have hki2 : 0 < kids.length := by omega
        unfold DeSaid
        rw [HL0.out]
        rcases hr with hr | hr
        all_goals
          go_enter Try.func9, Try.ntmps9
          go_wp2_with fail
          generalize hW : w1.alloc _ = W at HB ⊢
          have HW1 : Hid (Kept w1 W) := Lib.hid (by rw [← hW]; exact (Kept.refl _).alloc _)
          clear hW
          go_loopw [3, 4] (fun vn vi wr => vn = .int .i64 0 ∧ vi = .int .i64 0 ∧ wr = W) (fun _ _ _ => 0)
          case atStart => exact ⟨rfl, rfl, rfl⟩
          case round =>
            obtain ⟨rfl, rfl, rfl⟩ := hrel
            obtain ⟨⟨a0, a1, a2, a3, a4, a5⟩, -⟩ := box6 HB.out
            go_wp2_with fail
            go_ret
            exact ⟨rfl, HW1.out⟩
    have hlo : 2 ≤ op := by omega
    have hhi : op ≤ 6 := by omega
    by_cases h3 : op ≤ 3
    · have HLK2 : Hid (L = kids) := Lib.hid (by rw [← HLK.out]; unfold lk; rw [if_pos (by omega)])
      have hll : L.length ≤ kids.length := by rw [HLK2.out]; exact Nat.le_refl _
      have hll2 : L.length = kids.length := by rw [HLK2.out]
      go_enter Try.func9, Try.ntmps9
      go_wp2_with fail
      generalize hW : w1.alloc _ = W at HB ⊢
      have HW1 : Hid (Kept w1 W) := Lib.hid (by rw [← hW]; exact (Kept.refl _).alloc _)
      clear hW
      go_loopw [3, 4] (fun vn vi wr => ∃ n i : Nat, vn = .int .i64 n ∧ vi = .int .i64 i ∧ i ≤ L.length ∧ DF L i n ∧ n ≤ 1000000000000 ∧ Kept W wr) (fun _ vi _ => L.length - (intOf vi).toNat)
      case atStart => exact ⟨0, 0, rfl, rfl, Nat.zero_le _, DF.zero L, Nat.zero_le _, Kept.refl _⟩
      case round =>
        obtain ⟨n, i, rfl, rfl, hi, hnf, hnb0, hkw⟩ := hrel
        have HN := Lib.hid hnf
        have HK := Lib.hid hkw
        have HNB := Lib.hid hnb0
        clear hnf hkw
        obtain ⟨⟨a0, a1, a2, a3, a4, a5⟩, -⟩ := box6 (HK.out.blk HB.out)
        by_cases hlt : i < kids.length
        case neg =>
          have hge : ¬ (i : Int) < kids.length := by omega
          have hnb : (n : Int) ≤ 1000000000000 := by have := HNB.out; omega
          go_wp2_with fail
          go_ret
          exact ⟨by rw [deep_eq, HLK.out, ← HN.out.end (by omega)]; rfl, HW1.out.trans HK.out⟩
        have hlti0 : (i : Int) < kids.length := by omega
        by_cases hi0 : i = 0
        · subst hi0
          rw [show ((0 : Nat) : Int) = 0 from rfl]

          have hL : L[0]? = some kids[0] := HLK2.out ▸ List.getElem?_eq_getElem hlt
          have hj : kids[0]? = some kids[0] := List.getElem?_eq_getElem hlt
          obtain ⟨p, o, rfl, -, e0, e1, e2, e3, e4, e5, hv, c0, c1, c2, c3, c4, c5⟩ := HI.out.2.1 0 _ hj
          have hkw2 := HW.out.trans (HW1.out.trans HK.out)
          have C0 := hkw2.cell c0
          have C1 := hkw2.cell c1
          have C2 := hkw2.cell c2
          have C3 := hkw2.cell c3
          have C4 := hkw2.cell c4
          have C5 := hkw2.cell c5
          simp only [Nat.zero_mul, Nat.add_zero] at C0 C1 C2 C3 C4 C5
          have hdl : deep kids[0] + 1 ≤ 1000000000000 := by have := deepL_mem hL; have h := HD.out; rw [deep_eq, HLK.out] at h; omega
          have hcall := HI.out.1 0 _ hj wr hkw2 (by omega)
          rw [hv] at hcall
          have HC := Lib.hid hcall
          have HL := Lib.hid hL
          have hlti : (0 : Int) < kids.length := by omega
          clear hcall hkw2 c0 c1 c2 c3 c4 c5 hj hv hL
          generalize kids[0] = y at HC HL hdl
          go_wp2_with fail
          refine HC.out.mono ?_
          rintro e w5 ⟨rfl, q4⟩
          have HKN := Lib.hid (HK.out.trans q4)
          clear q4 HC C0 C1 C2 C3 C4 C5 a0 a1 a2 a3 a4 a5
          obtain ⟨m, hm⟩ : ∃ m, deep y = m := ⟨_, rfl⟩
          have HNN := Lib.hid (HN.out.step HL.out)
          rw [hm] at hdl HNN ⊢
          clear hm
          by_cases hgt : n < m
          · have hgti : (n : Int) < m := by omega
            have HNN2 : Hid (DF L (0 + 1) m) := Lib.hid (by have := HNN.out; rwa [Nat.max_eq_right (by omega)] at this)
            go_wp2_with fail
            go_roundw
            case rel => exact ⟨m, 0 + 1, by go_num, by first | rfl | go_num, by omega, HNN2.out, by omega, HKN.out⟩
            case measure => simp [intOf]; omega
          · have hgti : ¬ (n : Int) < m := by omega
            have HNN2 : Hid (DF L (0 + 1) n) := Lib.hid (by have := HNN.out; rwa [Nat.max_eq_left (by omega)] at this)
            go_wp2_with fail
            go_roundw
            case rel => exact ⟨n, 0 + 1, by go_num, by first | rfl | go_num, by omega, HNN2.out, HNB.out, HKN.out⟩
            case measure => simp [intOf]; omega
        · have hi0i : ¬ (i : Int) = 0 := by omega
          have hL : L[i]? = some kids[i] := HLK2.out ▸ List.getElem?_eq_getElem hlt
          have hj : kids[i]? = some kids[i] := List.getElem?_eq_getElem hlt
          obtain ⟨p, o, rfl, -, e0, e1, e2, e3, e4, e5, hv, c0, c1, c2, c3, c4, c5⟩ := HI.out.2.1 i _ hj
          have hkw2 := HW.out.trans (HW1.out.trans HK.out)
          have C0 := hkw2.cell c0
          have C1 := hkw2.cell c1
          have C2 := hkw2.cell c2
          have C3 := hkw2.cell c3
          have C4 := hkw2.cell c4
          have C5 := hkw2.cell c5
          have hdl : deep kids[i] + 1 ≤ 1000000000000 := by have := deepL_mem hL; have h := HD.out; rw [deep_eq, HLK.out] at h; omega
          have hcall := HI.out.1 i _ hj wr hkw2 (by omega)
          rw [hv] at hcall
          have HC := Lib.hid hcall
          have HL := Lib.hid hL
          have hlti : (i : Int) < kids.length := by omega
          have hib : (i : Int) + 1 ≤ 9223372036854775807 := by omega
          clear hcall hkw2 c0 c1 c2 c3 c4 c5 hj hv hL
          generalize kids[i] = y at HC HL hdl
          go_wp2_with fail
          refine HC.out.mono ?_
          rintro e w5 ⟨rfl, q4⟩
          have HKN := Lib.hid (HK.out.trans q4)
          clear q4 HC C0 C1 C2 C3 C4 C5 a0 a1 a2 a3 a4 a5
          obtain ⟨m, hm⟩ : ∃ m, deep y = m := ⟨_, rfl⟩
          have HNN := Lib.hid (HN.out.step HL.out)
          rw [hm] at hdl HNN ⊢
          clear hm
          by_cases hgt : n < m
          · have hgti : (n : Int) < m := by omega
            have HNN2 : Hid (DF L (i + 1) m) := Lib.hid (by have := HNN.out; rwa [Nat.max_eq_right (by omega)] at this)
            go_wp2_with fail
            go_roundw
            case rel => exact ⟨m, i + 1, by go_num, by first | rfl | go_num, by omega, HNN2.out, by omega, HKN.out⟩
            case measure => simp [intOf]; omega
          · have hgti : ¬ (n : Int) < m := by omega
            have HNN2 : Hid (DF L (i + 1) n) := Lib.hid (by have := HNN.out; rwa [Nat.max_eq_left (by omega)] at this)
            go_wp2_with fail
            go_roundw
            case rel => exact ⟨n, i + 1, by go_num, by first | rfl | go_num, by omega, HNN2.out, HNB.out, HKN.out⟩
            case measure => simp [intOf]; omega
    · have HLK2 : Hid (L = kids.take 1) := Lib.hid (by rw [← HLK.out]; unfold lk; rw [if_neg (by omega), if_pos (by omega)])
      have hll : L.length ≤ kids.length := by rw [HLK2.out]; rw [List.length_take]; omega
      have hll2 : 0 < kids.length → L.length = 1 := by rw [HLK2.out, List.length_take]; omega
      go_enter Try.func9, Try.ntmps9
      go_wp2_with fail
      generalize hW : w1.alloc _ = W at HB ⊢
      have HW1 : Hid (Kept w1 W) := Lib.hid (by rw [← hW]; exact (Kept.refl _).alloc _)
      clear hW
      go_loopw [3, 4] (fun vn vi wr => ∃ n i : Nat, vn = .int .i64 n ∧ vi = .int .i64 i ∧ i ≤ L.length ∧ DF L i n ∧ n ≤ 1000000000000 ∧ Kept W wr) (fun _ vi _ => L.length - (intOf vi).toNat)
      case atStart => exact ⟨0, 0, rfl, rfl, Nat.zero_le _, DF.zero L, Nat.zero_le _, Kept.refl _⟩
      case round =>
        obtain ⟨n, i, rfl, rfl, hi, hnf, hnb0, hkw⟩ := hrel
        have HN := Lib.hid hnf
        have HK := Lib.hid hkw
        have HNB := Lib.hid hnb0
        clear hnf hkw
        obtain ⟨⟨a0, a1, a2, a3, a4, a5⟩, -⟩ := box6 (HK.out.blk HB.out)
        by_cases hlt : i < kids.length
        case neg =>
          have hge : ¬ (i : Int) < kids.length := by omega
          have hnb : (n : Int) ≤ 1000000000000 := by have := HNB.out; omega
          go_wp2_with fail
          go_ret
          exact ⟨by rw [deep_eq, HLK.out, ← HN.out.end (by omega)]; rfl, HW1.out.trans HK.out⟩
        have hlti0 : (i : Int) < kids.length := by omega
        by_cases hi0 : i = 0
        case neg =>
          have hi0i : ¬ (i : Int) = 0 := by omega
          have hib0 : ((i : Int) == 0) = false := by simpa using hi0i
          have h3b : decide (op ≤ 3) = false := by simpa using h3
          have hnb : (n : Int) ≤ 1000000000000 := by have := HNB.out; omega
          go_wp2_with fail
          go_ret
          exact ⟨by rw [deep_eq, HLK.out, ← HN.out.end (by omega)]; rfl, HW1.out.trans HK.out⟩
        subst hi0
        rw [show ((0 : Nat) : Int) = 0 from rfl]
        have hL : L[0]? = some kids[0] := by rw [HLK2.out]; simp [List.getElem?_take, List.getElem?_eq_getElem hlt]
        have hj : kids[0]? = some kids[0] := List.getElem?_eq_getElem hlt
        obtain ⟨p, o, rfl, -, e0, e1, e2, e3, e4, e5, hv, c0, c1, c2, c3, c4, c5⟩ := HI.out.2.1 0 _ hj
        have hkw2 := HW.out.trans (HW1.out.trans HK.out)
        have C0 := hkw2.cell c0
        have C1 := hkw2.cell c1
        have C2 := hkw2.cell c2
        have C3 := hkw2.cell c3
        have C4 := hkw2.cell c4
        have C5 := hkw2.cell c5
        simp only [Nat.zero_mul, Nat.add_zero] at C0 C1 C2 C3 C4 C5
        have hdl : deep kids[0] + 1 ≤ 1000000000000 := by have := deepL_mem hL; have h := HD.out; rw [deep_eq, HLK.out] at h; omega
        have hcall := HI.out.1 0 _ hj wr hkw2 (by omega)
        rw [hv] at hcall
        have HC := Lib.hid hcall
        have HL := Lib.hid hL
        have hlti : (0 : Int) < kids.length := by omega
        clear hcall hkw2 c0 c1 c2 c3 c4 c5 hj hv hL
        generalize kids[0] = y at HC HL hdl
        go_wp2_with fail
        refine HC.out.mono ?_
        rintro e w5 ⟨rfl, q4⟩
        have HKN := Lib.hid (HK.out.trans q4)
        clear q4 HC C0 C1 C2 C3 C4 C5 a0 a1 a2 a3 a4 a5
        obtain ⟨m, hm⟩ : ∃ m, deep y = m := ⟨_, rfl⟩
        have HNN := Lib.hid (HN.out.step HL.out)
        rw [hm] at hdl HNN ⊢
        clear hm
        by_cases hgt : n < m
        · have hgti : (n : Int) < m := by omega
          have HNN2 : Hid (DF L (0 + 1) m) := Lib.hid (by have := HNN.out; rwa [Nat.max_eq_right (by omega)] at this)
          go_wp2_with fail
          go_roundw
          case rel => exact ⟨m, 0 + 1, by go_num, by first | rfl | go_num, by omega, HNN2.out, by omega, HKN.out⟩
          case measure => simp [intOf]; omega
        · have hgti : ¬ (n : Int) < m := by omega
          have HNN2 : Hid (DF L (0 + 1) n) := Lib.hid (by have := HNN.out; rwa [Nat.max_eq_left (by omega)] at this)
          go_wp2_with fail
          go_roundw
          case rel => exact ⟨n, 0 + 1, by go_num, by first | rfl | go_num, by omega, HNN2.out, HNB.out, HKN.out⟩
          case measure => simp [intOf]; omega
end Go.Proofs.Ytdbffbdpofodmaa
