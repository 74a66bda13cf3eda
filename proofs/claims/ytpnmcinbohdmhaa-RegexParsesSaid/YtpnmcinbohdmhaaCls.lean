/-
  What regex.class reads: a set of bytes. Conditions: the text is no longer than 200 bytes, and the reader stands at a byte of it.
-/
import Derived.Test.YtpnmcinbohdmhaaItem
import Derived.Deep.LoopGhost
set_option linter.unusedSimpArgs false
namespace Go.Proofs.Ytpnmcinbohdmhaa
open Go Go.RowKit Kit
def zre : Value := .agg #[.int .i64 0, .int .u64 0, .int .u64 0, .int .u64 0, .int .u64 0, .slice none 0 0]
def rcs (op : Nat) (X : BitVec 256) (sl : Value) : Array Value := #[.int .i64 op, wd X 0, wd X 1, wd X 2, wd X 3, sl]
def RePost (g : Nat) (s : ByteArray) (op : Nat) (r : Res Re) (w : World) (e : Ending) (w' : World) : Prop :=
  match r with
  | .ok x j => ∃ u, e = .returned (.tuple #[u, .int .i64 0]) ∧ ReAt (w.heap.size ≤ ·) w' u x ∧ Rd g s j op w' ∧ Gr g w w'
  | .err er j => e = .returned (.tuple #[zre, .int .i64 er]) ∧ (∃ op', Rd g s j op' w') ∧ Gr g w w'
theorem Kit.St.other {g : Nat} {s : ByteArray} {k op xb : Nat} {o o' : Obj} {bs : List (Nat × Obj)} {w W W' : World} (h : St g s k op ((xb, o) :: bs) w W) (hg : Gr xb W W') (hb : W'.heap[xb]? = some o') (hne : ∀ p ∈ bs, p.1 ≠ xb) (hw : w.heap.size ≤ xb) : St g s k op ((xb, o') :: bs) w W' := by
  have hxg := h.ne List.mem_cons_self
  refine ⟨hg.blk h.1 (fun e => hxg e.symm), fun p hp => ?_, ?_⟩
  · rcases List.mem_cons.1 hp with rfl | hp
    · exact ⟨hb, hxg⟩
    · exact ⟨hg.blk (h.2.1 p (List.mem_cons_of_mem _ hp)).1 (hne p hp), (h.2.1 p (List.mem_cons_of_mem _ hp)).2⟩
  · have h1 := h.2.2
    refine ⟨World.grownBy.os hg |>.trans h1.os, World.grownBy.tape hg |>.trans h1.tape, World.grownBy.output hg |>.trans h1.output, Nat.le_trans h1.size (Gr.size hg), fun i hi hne => ?_⟩
    refine (World.grownBy.block hg i (Nat.lt_of_lt_of_le hi h1.size) (fun e => ?_)).trans (h1.block i hi hne)
    injection e with e
    omega
theorem Kit.St.drop {g : Nat} {s : ByteArray} {k op : Nat} {b : Nat × Obj} {bs : List (Nat × Obj)} {w W : World} (h : St g s k op (b :: bs) w W) : St g s k op bs w W := ⟨h.1, fun p hp => h.2.1 p (List.mem_cons_of_mem _ hp), h.2.2⟩
def clsOut (n : Bool) (R : Res (BitVec 256)) : Res Re := match R with | .err e j => .err e j | .ok x j => .ok (.mk 1 (if n then ~~~ x else x) []) j
theorem Kit.St.side {g : Nat} {s : ByteArray} {k op : Nat} {bs : List (Nat × Obj)} {w W : World} (h : St g s k op bs w W) {p : Addr} (hp : w.heap.size ≤ p.block) (hg : p.block ≠ g) (hb : ∀ q ∈ bs, p.block ≠ q.1) (u : Value) : St g s k op bs w (W.setCell p u) :=
  ⟨blk_aside h.1 hg u, fun q hq => ⟨blk_aside (h.2.1 q hq).1 (hb q hq) u, (h.2.1 q hq).2⟩, h.2.2.set (.inr hp) u⟩
/-- A block of which nobody asks, made and left. -/
theorem Kit.St.drop2 {g : Nat} {s : ByteArray} {k op : Nat} {bs : List (Nat × Obj)} {w W : World} (h : St g s k op bs w W) (o : Obj) : St g s k op bs w (W.alloc o) := h.kept ((Kept.refl _).alloc o)
/-- Six stores into the block of the result. -/
theorem ret_re {g k op r : Nat} {s : ByteArray} {w W : World} (h : St g s k op [(r, .cells #[.int .i64 0, .int .u64 0, .int .u64 0, .int .u64 0, .int .u64 0, .slice none 0 0] 27)] w W) (hr : w.heap.size ≤ r) (a b c d e f : Value) :
    ((((((W.setCell ⟨r, 0, none⟩ a).setCell ⟨r, 1, none⟩ b).setCell ⟨r, 2, none⟩ c).setCell ⟨r, 3, none⟩ d).setCell ⟨r, 4, none⟩ e).setCell ⟨r, 5, none⟩ f).heap[r]? = some (.cells #[a, b, c, d, e, f] 27 (0, 0)) ∧
    Rd g s k op ((((((W.setCell ⟨r, 0, none⟩ a).setCell ⟨r, 1, none⟩ b).setCell ⟨r, 2, none⟩ c).setCell ⟨r, 3, none⟩ d).setCell ⟨r, 4, none⟩ e).setCell ⟨r, 5, none⟩ f) ∧
    Gr g w ((((((W.setCell ⟨r, 0, none⟩ a).setCell ⟨r, 1, none⟩ b).setCell ⟨r, 2, none⟩ c).setCell ⟨r, 3, none⟩ d).setCell ⟨r, 4, none⟩ e).setCell ⟨r, 5, none⟩ f) := by
  have hb := h.blk List.mem_cons_self
  have hn := h.ne List.mem_cons_self
  have h1 := (((((h.put (p := ⟨r, 0, none⟩) hr hn a).put (p := ⟨r, 1, none⟩) hr hn b).put (p := ⟨r, 2, none⟩) hr hn c).put (p := ⟨r, 3, none⟩) hr hn d).put (p := ⟨r, 4, none⟩) hr hn e).put (p := ⟨r, 5, none⟩) hr hn f
  exact ⟨blk_set6 hb _ _ _ _ _ _, h1.1, h1.2.2⟩
theorem Kit.St.begin {g : Nat} {s : ByteArray} {k op : Nat} {w : World} (h : Rd g s k op w) (k' : Nat) (o : Obj) : St g s k' op [(w.heap.size, o)] w ((w.setCell ⟨g, 1, none⟩ (.int .i64 k')).alloc o) := by
  have h1 := ((St.start h).at k').alloc o
  have e : (w.setCell ⟨g, 1, none⟩ (.int .i64 k')).heap.size = w.heap.size := by simp [World.setCell]
  rw [e] at h1
  exact h1
/-- Where the reader stands. -/
def atOf (g : Nat) (w : World) : Nat := match w.cell? ⟨g, 1, none⟩ with | some (.int _ n) => n.toNat | _ => 0
theorem atOf_rd {g : Nat} {s : ByteArray} {k op : Nat} {w : World} (h : Rd g s k op w) : atOf g w = k := by
  unfold atOf
  rw [h.lay.2.1]
  simp
set_option maxHeartbeats 4000000 in
theorem class_true_no (g : Nat) (s : ByteArray) (k op : Nat) (w : World) (h : Rd g s k op w) (_hs : s.size ≤ 200) (_hk : k < s.size) (k1 k2 : Nat) (hi1 : (k : Int) + 1 = k1) (hi2 : (k1 : Int) + 1 = k2) (hk1 : k1 ≤ 200) (hn : (byteAt s k1 == some 94) = true) (hb : (byteAt s k2 == some 93) = true) : Calls Try.prog 48 #[ptr g] w (RePost g s op (.err 2 k2) w) := by
  unfold RePost
  have hgl := h.lt
  have hklt := h.lt
  have H := Lib.hid (St.begin h k1 (.cells #[.int .i64 0, .int .u64 0, .int .u64 0, .int .u64 0, .int .u64 0, .slice none 0 0] 27))
  obtain ⟨⟨c0, c1, c2⟩, f0, f1, f2⟩ := h.cells
  clear h
  unfold ptr at *
  go_enter Try.func48, Try.ntmps48
  go_wp2_with fail
  generalize (w.setCell _ _).alloc _ = w1 at H ⊢
  clear c0 c1 c2 f0 f1 f2
  have HS := Lib.hid (sees_any g s k1 op 94 w1 H.out.1)
  rw [hn] at HS
  refine HS.out.mono ?_
  rintro e w2 ⟨rfl, h2⟩
  replace H := Lib.hid (H.out.kept h2)
  clear h2 HS
  obtain ⟨⟨c0, c1, c2⟩, f0, f1, f2⟩ := H.out.1.cells
  go_wp2_with fail
  replace H := Lib.hid (H.out.at k2)
  generalize w2.setCell _ _ = w3 at H ⊢
  clear c0 c1 c2 f0 f1 f2
  have HS := Lib.hid (sees_any g s k2 op 93 w3 H.out.1)
  rw [hb] at HS
  go_wp2_with fail
  refine HS.out.mono ?_
  rintro e w4 ⟨rfl, h2⟩
  replace H := Lib.hid (H.out.kept h2)
  clear h2 HS
  obtain ⟨⟨d0, d1, d2, d3, d4, d5⟩, g0, g1, g2, g3, g4, g5⟩ := box6 (H.out.blk List.mem_cons_self)
  have HF := Lib.hid (ret_re H.out (Nat.le_refl _) (.int .i64 0) (.int .u64 0) (.int .u64 0) (.int .u64 0) (.int .u64 0) (.slice none 0 0))
  go_wp2_with fail
  refine bodyPost_ret (v := .tuple #[zre, .int .i64 2]) ?_ rfl ⟨rfl, ⟨_, HF.out.2.1⟩, HF.out.2.2⟩
  simp [results, Try.results48, go_sem, zre, d0, d1, d2, d3, d4, d5]
set_option maxHeartbeats 4000000 in
theorem class_true_set (g : Nat) (s : ByteArray) (k op : Nat) (w : World) (h : Rd g s k op w) (hs : s.size ≤ 200) (_hk : k < s.size) (k1 k2 : Nat) (hi1 : (k : Int) + 1 = k1) (hi2 : (k1 : Int) + 1 = k2) (hk1 : k1 ≤ 200) (hn : (byteAt s k1 == some 94) = true) (hk2 : k2 ≤ s.size) (hb : (byteAt s k2 == some 93) = false) (R : Res (BitVec 256)) (HR : Hid (classL s 0#256 k2 = R)) : Calls Try.prog 48 #[ptr g] w (RePost g s op (clsOut true R) w) := by
  have hgl := h.lt
  have hklt := h.lt
  have H := Lib.hid (St.begin h k1 (.cells #[.int .i64 0, .int .u64 0, .int .u64 0, .int .u64 0, .int .u64 0, .slice none 0 0] 27))
  obtain ⟨⟨c0, c1, c2⟩, f0, f1, f2⟩ := h.cells
  clear h
  unfold ptr at *
  go_enter Try.func48, Try.ntmps48
  go_wp2_with fail
  generalize (w.setCell _ _).alloc _ = w1 at H ⊢
  clear c0 c1 c2 f0 f1 f2
  have HS := Lib.hid (sees_any g s k1 op 94 w1 H.out.1)
  rw [hn] at HS
  refine HS.out.mono ?_
  rintro e w2 ⟨rfl, h2⟩
  replace H := Lib.hid (H.out.kept h2)
  clear h2 HS
  obtain ⟨⟨c0, c1, c2⟩, f0, f1, f2⟩ := H.out.1.cells
  go_wp2_with fail
  replace H := Lib.hid (H.out.at k2)
  generalize w2.setCell _ _ = w3 at H ⊢
  clear c0 c1 c2 f0 f1 f2
  have HS := Lib.hid (sees_any g s k2 op 93 w3 H.out.1)
  rw [hb] at HS
  go_wp2_with fail
  refine HS.out.mono ?_
  rintro e w4 ⟨rfl, h2⟩
  replace H := Lib.hid (H.out.kept h2)
  clear h2 HS
  clear hb hn
  have H6 := Lib.hid (H.out.alloc (.cells #[.int .i64 1, .int .u64 0, .int .u64 0, .int .u64 0, .int .u64 0, .slice none 0 0] 27))
  have hsz := H.out.2.2.size
  have hrl := blk_lt (H.out.blk List.mem_cons_self)
  go_wp2_with fail
  go_loopw [6, 7] (fun _ _ wr => ∃ (j : Nat) (X : BitVec 256), j ≤ s.size ∧ classL s X j = R ∧ St g s j op [(w4.heap.size, .cells (rcs 1 X (.slice none 0 0)) 27), (w.heap.size, (.cells #[.int .i64 0, .int .u64 0, .int .u64 0, .int .u64 0, .int .u64 0, .slice none 0 0] 27))] w wr) (fun _ _ wr => s.size - atOf g wr)
  case atStart =>
    refine ⟨k2, 0#256, hk2, HR.out, ?_⟩
    have e : rcs 1 0#256 (.slice none 0 0) = #[.int .i64 1, .int .u64 0, .int .u64 0, .int .u64 0, .int .u64 0, .slice none 0 0] := by unfold rcs; simp only [wd_zero]; rfl
    rw [e]
    exact H6.out
  case round =>
    obtain ⟨j, X, hj, hr, hst⟩ := hrel
    clear HR H6 H
    have H := Lib.hid hst
    have HR := Lib.hid hr
    clear hst hr
    have HM := Lib.hid (atOf_rd H.out.1)
    by_cases hc : byteAt s j = some 93
    · have HS := Lib.hid (sees_any g s j op 93 wr H.out.1)
      rw [show (byteAt s j == some 93) = true from by simp [hc]] at HS
      have HE : Hid (R = .ok X (j + 1)) := Lib.hid (by rw [← HR.out, classL, if_pos hc])
      have hjlt := byteAt_lt hc
      clear HR hc
      obtain ⟨j1, hj1⟩ : ∃ j1, j + 1 = j1 := ⟨_, rfl⟩
      have hji : (j : Int) + 1 = j1 := by omega
      have hj1b : j1 ≤ 200 := by omega
      rw [hj1] at HE
      clear hj1
      go_wp2_with fail
      refine HS.out.mono ?_
      rintro e w5 ⟨rfl, h2⟩
      replace H := Lib.hid (H.out.kept h2)
      clear h2 HS HM
      obtain ⟨⟨c0, c1, c2⟩, f0, f1, f2⟩ := H.out.1.cells
      obtain ⟨⟨x0, x1, x2, x3, x4, x5⟩, y0, y1, y2, y3, y4, y5⟩ := box6 (H.out.blk List.mem_cons_self)
      simp only [wd_eq] at x1 x2 x3 x4
      have HX := H
      clear y0 y1 y2 y3 y4 y5
      replace H := Lib.hid (H.out.at j1)
      have HO := Lib.hid (others_any X (w5.setCell ⟨g, 1, none⟩ (.int .i64 j1)))
      unfold set4 at HO
      simp only [wd_eq] at HO
      go_wp2_with fail
      refine HO.out.mono ?_
      rintro e w7 ⟨rfl, h2⟩
      replace H := Lib.hid (H.out.kept h2)
      clear h2 HO HX c0 c1 c2 f0 f1 f2 x0 x1 x2 x3 x4 x5
      obtain ⟨⟨x0, x1, x2, x3, x4, x5⟩, y0, y1, y2, y3, y4, y5⟩ := box6 (H.out.blk List.mem_cons_self)
      simp only [wd_eq] at x1 x2 x3 x4
      obtain ⟨⟨d0, d1, d2, d3, d4, d5⟩, g0, g1, g2, g3, g4, g5⟩ := box6 (H.out.blk (List.mem_cons_of_mem _ List.mem_cons_self))
      have hxg := H.out.ne List.mem_cons_self
      have hs1 := (((H.out.drop.side (p := ⟨w4.heap.size, 1, none⟩) hsz hxg (by simp; omega) (.int .u64 (wdN (~~~ X) 0))).side (p := ⟨w4.heap.size, 2, none⟩) hsz hxg (by simp; omega) (.int .u64 (wdN (~~~ X) 1))).side (p := ⟨w4.heap.size, 3, none⟩) hsz hxg (by simp; omega) (.int .u64 (wdN (~~~ X) 2))).side (p := ⟨w4.heap.size, 4, none⟩) hsz hxg (by simp; omega) (.int .u64 (wdN (~~~ X) 3))
      have HF := Lib.hid (ret_re hs1 (Nat.le_refl _) (.int .i64 1) (.int .u64 (wdN (~~~ X) 0)) (.int .u64 (wdN (~~~ X) 1)) (.int .u64 (wdN (~~~ X) 2)) (.int .u64 (wdN (~~~ X) 3)) (.slice none 0 0))
      clear hs1 hxg
      go_wp2_with fail
      refine bodyPost_ret (v := .tuple #[re6 1 (~~~ X) (.slice none 0 0), .int .i64 0]) ?_ rfl ?_
      · simp [results, Try.results48, go_sem, re6, wd_eq, d0, d1, d2, d3, d4, d5]
      · rw [HE.out]
        exact ⟨_, rfl, ReAt.leaf _ _ _ _, HF.out.2.1, HF.out.2.2⟩
    · have hcb : (byteAt s j == some 93) = false := by simp [hc]
      have HS := Lib.hid (sees_any g s j op 93 wr H.out.1)
      rw [hcb] at HS
      have hfw := itemP_fw s j hj
      have hun := HR.out
      rw [classL, if_neg hc] at hun
      have HUN := Lib.hid (And.intro hun hfw)
      clear hun hfw
      go_wp2_with fail
      refine HS.out.mono ?_
      rintro e w5 ⟨rfl, h2⟩
      replace H := Lib.hid (H.out.kept h2)
      clear h2 HS hc hcb HR
      go_wp2_with fail
      have HI := Lib.hid (item_any g s j op w5 H.out.1 hs hj)
      unfold ptr at HI
      have hun := HUN.out.1
      have hfw := HUN.out.2
      clear HUN
      cases hit : itemP s j with
      | err er i =>
        rw [hit] at HI hfw hun
        simp only at hun
        have HE := Lib.hid hun.symm
        have her := hfw.1
        clear hun hit hfw
        have her2 : ¬ (er : Int) = 0 := by omega
        unfold ItemPost at HI
        refine HI.out.mono ?_
        rintro e w6 ⟨rfl, h2, h3⟩
        replace H := Lib.hid (H.out.step h2 h3)
        clear h2 h3 HI HM
        obtain ⟨⟨d0, d1, d2, d3, d4, d5⟩, g0, g1, g2, g3, g4, g5⟩ := box6 (H.out.blk (List.mem_cons_of_mem _ List.mem_cons_self))
        have hrl6 := blk_lt (H.out.blk (List.mem_cons_of_mem _ List.mem_cons_self))
        have HF := Lib.hid (ret_re H.out.drop (Nat.le_refl _) (.int .i64 0) (.int .u64 0) (.int .u64 0) (.int .u64 0) (.int .u64 0) (.slice none 0 0))
        go_wp2_with fail
        refine bodyPost_ret (v := .tuple #[zre, .int .i64 er]) ?_ rfl ?_
        · simp [results, Try.results48, go_sem, zre, d0, d1, d2, d3, d4, d5, hrl6]
        · rw [HE.out]
          exact ⟨rfl, ⟨_, HF.out.2.1.kept ((Kept.refl _).alloc _)⟩, HF.out.2.2.alloc _⟩
      | ok ab i =>
        obtain ⟨a, b⟩ := ab
        rw [hit] at HI hfw hun
        simp only at hun
        obtain ⟨hlt, hle⟩ := hfw
        have hjs : j < s.size := by
          rcases Nat.lt_or_ge j s.size with h | h
          · exact h
          · omega
        rw [if_pos ⟨hlt, hjs⟩] at hun
        have HR := Lib.hid hun
        clear hun hit
        unfold ItemPost at HI
        refine HI.out.mono ?_
        rintro e w6 ⟨rfl, h2, h3⟩
        replace H := Lib.hid (H.out.step h2 h3)
        clear h2 h3 HI
        have ha := a.toNat_lt
        have hb2 := b.toNat_lt
        have HA := Lib.hid (H.out.drop2 (.cells #[.int .u8 a.toNat, .int .u8 b.toNat] 74))
        have HP := Lib.hid (put_any w4.heap.size 1 a.toNat b.toNat (by omega) (by omega) X (rcs 1 X (.slice none 0 0)) 27 (w6.alloc (.cells #[.int .u8 a.toNat, .int .u8 b.toNat] 74)) (by unfold rcs; simp) (blk_old _ _ (H.out.blk List.mem_cons_self)))
        clear H ha hb2
        go_wp2_with fail
        refine HP.out.mono ?_
        rintro e w7 ⟨rfl, hb7, hg7⟩
        have HN := Lib.hid (HA.out.other (o' := .cells (rcs 1 (putR X a b) (.slice none 0 0)) 27) hg7 hb7 (by simp; omega) hsz)
        have HM2 := Lib.hid (atOf_rd HN.out.1)
        clear HA HP hb7 hg7
        go_wp2_with fail
        go_roundw
        case rel => exact ⟨i, putR X a b, hle, HR.out, HN.out⟩
        case measure => rw [HM.out, HM2.out]; omega

set_option maxHeartbeats 4000000 in
theorem class_false_no (g : Nat) (s : ByteArray) (k op : Nat) (w : World) (h : Rd g s k op w) (_hs : s.size ≤ 200) (_hk : k < s.size) (k1 k2 : Nat) (hi1 : (k : Int) + 1 = k1) (hi2 : (k1 : Int) + 1 = k2) (hk1 : k1 ≤ 200) (hn : (byteAt s k1 == some 94) = false) (hb : (byteAt s k1 == some 93) = true) : Calls Try.prog 48 #[ptr g] w (RePost g s op (.err 2 k1) w) := by
  unfold RePost
  have hgl := h.lt
  have hklt := h.lt
  have H := Lib.hid (St.begin h k1 (.cells #[.int .i64 0, .int .u64 0, .int .u64 0, .int .u64 0, .int .u64 0, .slice none 0 0] 27))
  obtain ⟨⟨c0, c1, c2⟩, f0, f1, f2⟩ := h.cells
  clear h
  unfold ptr at *
  go_enter Try.func48, Try.ntmps48
  go_wp2_with fail
  generalize (w.setCell _ _).alloc _ = w1 at H ⊢
  clear c0 c1 c2 f0 f1 f2
  have HS := Lib.hid (sees_any g s k1 op 94 w1 H.out.1)
  rw [hn] at HS
  refine HS.out.mono ?_
  rintro e w2 ⟨rfl, h2⟩
  replace H := Lib.hid (H.out.kept h2)
  clear h2 HS
  have HS := Lib.hid (sees_any g s k1 op 93 w2 H.out.1)
  rw [hb] at HS
  go_wp2_with fail
  refine HS.out.mono ?_
  rintro e w4 ⟨rfl, h2⟩
  replace H := Lib.hid (H.out.kept h2)
  clear h2 HS
  obtain ⟨⟨d0, d1, d2, d3, d4, d5⟩, g0, g1, g2, g3, g4, g5⟩ := box6 (H.out.blk List.mem_cons_self)
  have HF := Lib.hid (ret_re H.out (Nat.le_refl _) (.int .i64 0) (.int .u64 0) (.int .u64 0) (.int .u64 0) (.int .u64 0) (.slice none 0 0))
  go_wp2_with fail
  refine bodyPost_ret (v := .tuple #[zre, .int .i64 2]) ?_ rfl ⟨rfl, ⟨_, HF.out.2.1⟩, HF.out.2.2⟩
  simp [results, Try.results48, go_sem, zre, d0, d1, d2, d3, d4, d5]
set_option maxHeartbeats 4000000 in
theorem class_false_set (g : Nat) (s : ByteArray) (k op : Nat) (w : World) (h : Rd g s k op w) (hs : s.size ≤ 200) (_hk : k < s.size) (k1 k2 : Nat) (hi1 : (k : Int) + 1 = k1) (hi2 : (k1 : Int) + 1 = k2) (hk1 : k1 ≤ 200) (hn : (byteAt s k1 == some 94) = false) (hk2 : k1 ≤ s.size) (hb : (byteAt s k1 == some 93) = false) (R : Res (BitVec 256)) (HR : Hid (classL s 0#256 k1 = R)) : Calls Try.prog 48 #[ptr g] w (RePost g s op (clsOut false R) w) := by
  have hgl := h.lt
  have hklt := h.lt
  have H := Lib.hid (St.begin h k1 (.cells #[.int .i64 0, .int .u64 0, .int .u64 0, .int .u64 0, .int .u64 0, .slice none 0 0] 27))
  obtain ⟨⟨c0, c1, c2⟩, f0, f1, f2⟩ := h.cells
  clear h
  unfold ptr at *
  go_enter Try.func48, Try.ntmps48
  go_wp2_with fail
  generalize (w.setCell _ _).alloc _ = w1 at H ⊢
  clear c0 c1 c2 f0 f1 f2
  have HS := Lib.hid (sees_any g s k1 op 94 w1 H.out.1)
  rw [hn] at HS
  refine HS.out.mono ?_
  rintro e w2 ⟨rfl, h2⟩
  replace H := Lib.hid (H.out.kept h2)
  clear h2 HS
  have HS := Lib.hid (sees_any g s k1 op 93 w2 H.out.1)
  rw [hb] at HS
  go_wp2_with fail
  refine HS.out.mono ?_
  rintro e w4 ⟨rfl, h2⟩
  replace H := Lib.hid (H.out.kept h2)
  clear h2 HS
  clear hb hn
  have H6 := Lib.hid (H.out.alloc (.cells #[.int .i64 1, .int .u64 0, .int .u64 0, .int .u64 0, .int .u64 0, .slice none 0 0] 27))
  have hsz := H.out.2.2.size
  have hrl := blk_lt (H.out.blk List.mem_cons_self)
  go_wp2_with fail
  go_loopw [6, 7] (fun _ _ wr => ∃ (j : Nat) (X : BitVec 256), j ≤ s.size ∧ classL s X j = R ∧ St g s j op [(w4.heap.size, .cells (rcs 1 X (.slice none 0 0)) 27), (w.heap.size, (.cells #[.int .i64 0, .int .u64 0, .int .u64 0, .int .u64 0, .int .u64 0, .slice none 0 0] 27))] w wr) (fun _ _ wr => s.size - atOf g wr)
  case atStart =>
    refine ⟨k1, 0#256, hk2, HR.out, ?_⟩
    have e : rcs 1 0#256 (.slice none 0 0) = #[.int .i64 1, .int .u64 0, .int .u64 0, .int .u64 0, .int .u64 0, .slice none 0 0] := by unfold rcs; simp only [wd_zero]; rfl
    rw [e]
    exact H6.out
  case round =>
    obtain ⟨j, X, hj, hr, hst⟩ := hrel
    clear HR H6 H
    have H := Lib.hid hst
    have HR := Lib.hid hr
    clear hst hr
    have HM := Lib.hid (atOf_rd H.out.1)
    by_cases hc : byteAt s j = some 93
    · have HS := Lib.hid (sees_any g s j op 93 wr H.out.1)
      rw [show (byteAt s j == some 93) = true from by simp [hc]] at HS
      have HE : Hid (R = .ok X (j + 1)) := Lib.hid (by rw [← HR.out, classL, if_pos hc])
      have hjlt := byteAt_lt hc
      clear HR hc
      obtain ⟨j1, hj1⟩ : ∃ j1, j + 1 = j1 := ⟨_, rfl⟩
      have hji : (j : Int) + 1 = j1 := by omega
      have hj1b : j1 ≤ 200 := by omega
      rw [hj1] at HE
      clear hj1
      go_wp2_with fail
      refine HS.out.mono ?_
      rintro e w5 ⟨rfl, h2⟩
      replace H := Lib.hid (H.out.kept h2)
      clear h2 HS HM
      obtain ⟨⟨c0, c1, c2⟩, f0, f1, f2⟩ := H.out.1.cells
      obtain ⟨⟨x0, x1, x2, x3, x4, x5⟩, y0, y1, y2, y3, y4, y5⟩ := box6 (H.out.blk List.mem_cons_self)
      simp only [wd_eq] at x1 x2 x3 x4
      obtain ⟨⟨d0, d1, d2, d3, d4, d5⟩, g0, g1, g2, g3, g4, g5⟩ := box6 (H.out.blk (List.mem_cons_of_mem _ List.mem_cons_self))
      have HF := Lib.hid (ret_re (H.out.at j1).drop (Nat.le_refl _) (.int .i64 1) (.int .u64 (wdN X 0)) (.int .u64 (wdN X 1)) (.int .u64 (wdN X 2)) (.int .u64 (wdN X 3)) (.slice none 0 0))
      go_wp2_with fail
      refine bodyPost_ret (v := .tuple #[re6 1 X (.slice none 0 0), .int .i64 0]) ?_ rfl ?_
      · simp [results, Try.results48, go_sem, re6, wd_eq, d0, d1, d2, d3, d4, d5]
      · rw [HE.out]
        exact ⟨_, rfl, ReAt.leaf _ _ _ _, HF.out.2.1, HF.out.2.2⟩
    · have hcb : (byteAt s j == some 93) = false := by simp [hc]
      have HS := Lib.hid (sees_any g s j op 93 wr H.out.1)
      rw [hcb] at HS
      have hfw := itemP_fw s j hj
      have hun := HR.out
      rw [classL, if_neg hc] at hun
      have HUN := Lib.hid (And.intro hun hfw)
      clear hun hfw
      go_wp2_with fail
      refine HS.out.mono ?_
      rintro e w5 ⟨rfl, h2⟩
      replace H := Lib.hid (H.out.kept h2)
      clear h2 HS hc hcb HR
      go_wp2_with fail
      have HI := Lib.hid (item_any g s j op w5 H.out.1 hs hj)
      unfold ptr at HI
      have hun := HUN.out.1
      have hfw := HUN.out.2
      clear HUN
      cases hit : itemP s j with
      | err er i =>
        rw [hit] at HI hfw hun
        simp only at hun
        have HE := Lib.hid hun.symm
        have her := hfw.1
        clear hun hit hfw
        have her2 : ¬ (er : Int) = 0 := by omega
        unfold ItemPost at HI
        refine HI.out.mono ?_
        rintro e w6 ⟨rfl, h2, h3⟩
        replace H := Lib.hid (H.out.step h2 h3)
        clear h2 h3 HI HM
        obtain ⟨⟨d0, d1, d2, d3, d4, d5⟩, g0, g1, g2, g3, g4, g5⟩ := box6 (H.out.blk (List.mem_cons_of_mem _ List.mem_cons_self))
        have hrl6 := blk_lt (H.out.blk (List.mem_cons_of_mem _ List.mem_cons_self))
        have HF := Lib.hid (ret_re H.out.drop (Nat.le_refl _) (.int .i64 0) (.int .u64 0) (.int .u64 0) (.int .u64 0) (.int .u64 0) (.slice none 0 0))
        go_wp2_with fail
        refine bodyPost_ret (v := .tuple #[zre, .int .i64 er]) ?_ rfl ?_
        · simp [results, Try.results48, go_sem, zre, d0, d1, d2, d3, d4, d5, hrl6]
        · rw [HE.out]
          exact ⟨rfl, ⟨_, HF.out.2.1.kept ((Kept.refl _).alloc _)⟩, HF.out.2.2.alloc _⟩
      | ok ab i =>
        obtain ⟨a, b⟩ := ab
        rw [hit] at HI hfw hun
        simp only at hun
        obtain ⟨hlt, hle⟩ := hfw
        have hjs : j < s.size := by
          rcases Nat.lt_or_ge j s.size with h | h
          · exact h
          · omega
        rw [if_pos ⟨hlt, hjs⟩] at hun
        have HR := Lib.hid hun
        clear hun hit
        unfold ItemPost at HI
        refine HI.out.mono ?_
        rintro e w6 ⟨rfl, h2, h3⟩
        replace H := Lib.hid (H.out.step h2 h3)
        clear h2 h3 HI
        have ha := a.toNat_lt
        have hb2 := b.toNat_lt
        have HA := Lib.hid (H.out.drop2 (.cells #[.int .u8 a.toNat, .int .u8 b.toNat] 74))
        have HP := Lib.hid (put_any w4.heap.size 1 a.toNat b.toNat (by omega) (by omega) X (rcs 1 X (.slice none 0 0)) 27 (w6.alloc (.cells #[.int .u8 a.toNat, .int .u8 b.toNat] 74)) (by unfold rcs; simp) (blk_old _ _ (H.out.blk List.mem_cons_self)))
        clear H ha hb2
        go_wp2_with fail
        refine HP.out.mono ?_
        rintro e w7 ⟨rfl, hb7, hg7⟩
        have HN := Lib.hid (HA.out.other (o' := .cells (rcs 1 (putR X a b) (.slice none 0 0)) 27) hg7 hb7 (by simp; omega) hsz)
        have HM2 := Lib.hid (atOf_rd HN.out.1)
        clear HA HP hb7 hg7
        go_wp2_with fail
        go_roundw
        case rel => exact ⟨i, putR X a b, hle, HR.out, HN.out⟩
        case measure => rw [HM.out, HM2.out]; omega

theorem class_any (g : Nat) (s : ByteArray) (k op : Nat) (w : World) (h : Rd g s k op w) (hs : s.size ≤ 200) (hk : k < s.size) : Calls Try.prog 48 #[ptr g] w (RePost g s op (classP s k) w) := by
  have hle := classB_le hk
  unfold classP
  unfold classB at *
  cases hn : notAt s k with
  | true =>
    rw [hn] at hle
    simp only [if_true] at *
    by_cases hb : byteAt s (k + 2) = some 93
    · rw [if_pos hb]
      exact class_true_no g s k op w h hs hk (k + 1) (k + 2) (by omega) (by omega) (by omega) hn (by simp [hb])
    · rw [if_neg hb]
      exact class_true_set g s k op w h hs hk (k + 1) (k + 2) (by omega) (by omega) (by omega) hn hle.2 (by simp [hb]) _ (Lib.hid rfl)
  | false =>
    rw [hn] at hle
    simp only [Bool.false_eq_true, if_false] at *
    by_cases hb : byteAt s (k + 1) = some 93
    · rw [if_pos hb]
      exact class_false_no g s k op w h hs hk (k + 1) (k + 2) (by omega) (by omega) (by omega) hn (by simp [hb])
    · rw [if_neg hb]
      exact class_false_set g s k op w h hs hk (k + 1) (k + 2) (by omega) (by omega) (by omega) hn hle.2 (by simp [hb]) _ (Lib.hid rfl)
end Go.Proofs.Ytpnmcinbohdmhaa
