/-
  What the small functions of package rope's nodes do: leaves, lengths, the first and the last leaf.
-/
import Derived.Test.YtdobbindilibjaaLink
import Derived.Test.YtdobbindilibjaaReg
set_option linter.unusedSimpArgs false
namespace Go.Proofs.Ytdobbindilibjaa.Kit
open Go Go.RowKit
namespace Tr
def setLast : Tr → List UInt8 → Tr
  | leaf _, s => leaf s
  | node l r, s => node l (r.setLast s)
def lastL : Tr → List UInt8
  | leaf s => s
  | node _ r => r.lastL
def firstL : Tr → List UInt8
  | leaf s => s
  | node l _ => l.firstL
/-- The text without its last leaf, without its first. -/
def initT : Tr → List UInt8
  | leaf _ => []
  | node l r => l.text ++ r.initT
def tailT : Tr → List UInt8
  | leaf _ => []
  | node l r => l.tailT ++ r.text
theorem text_last : ∀ t : Tr, t.text = t.initT ++ t.lastL
  | leaf s => by simp [text, initT, lastL]
  | node l r => by simp [text, initT, lastL, text_last r]
theorem text_first : ∀ t : Tr, t.text = t.firstL ++ t.tailT
  | leaf s => by simp [text, firstL, tailT]
  | node l r => by simp [text, firstL, tailT, text_first l]
theorem setLast_ht : ∀ (t : Tr) (s : List UInt8), (t.setLast s).ht = t.ht
  | leaf _, _ => rfl
  | node l r, s => by simp [setLast, ht, setLast_ht r s]
theorem setLast_text : ∀ (t : Tr) (s : List UInt8), (t.setLast s).text = t.initT ++ s
  | leaf _, _ => by simp [setLast, text, initT]
  | node l r, s => by simp [setLast, text, initT, setLast_text r s]
theorem setLast_ok : ∀ (t : Tr) (s : List UInt8), t.Ok → 1 ≤ s.length → s.length ≤ 64 → (t.setLast s).Ok
  | leaf _, _, _, h1, h2 => ⟨h1, h2⟩
  | node l r, s, h, h1, h2 => ⟨h.1, setLast_ok r s h.2.1 h1 h2, by rw [setLast_ht]; exact h.2.2.1, by rw [setLast_ht]; exact h.2.2.2⟩
theorem lastL_le : ∀ t : Tr, t.lastL.length ≤ t.text.length := fun t => by rw [t.text_last]; simp
theorem initT_le : ∀ t : Tr, t.initT.length ≤ t.text.length := fun t => by rw [t.text_last]; simp
theorem tailT_le : ∀ t : Tr, t.tailT.length ≤ t.text.length := fun t => by rw [t.text_first]; simp
theorem lastL_ok : ∀ t : Tr, t.Ok → 1 ≤ t.lastL.length ∧ t.lastL.length ≤ 64
  | leaf _, h => h
  | node _ r, h => lastL_ok r h.2.1
theorem firstL_ok : ∀ t : Tr, t.Ok → 1 ≤ t.firstL.length ∧ t.firstL.length ≤ 64
  | leaf _, h => h
  | node l _, h => firstL_ok l h.1
end Tr
theorem OL.ptr {w : World} {v : Value} {s : List UInt8} (h : OL w v s) : ∃ p, v = .pointer p := by
  obtain ⟨o, h1, -, -⟩ := h
  cases o with
  | none => exact ⟨none, h1⟩
  | some t => obtain ⟨k, _, _, _, e, -⟩ := At.block h1; exact ⟨_, e⟩
theorem stab_at (t : Tr) : ∀ (u : Value) (w w' : World), Kept w w' → At w u t → At w' u t := fun _ _ _ h k => k.kept h
theorem stab_ol (s : List UInt8) : ∀ (u : Value) (w w' : World), Kept w w' → OL w u s → OL w' u s := fun _ _ _ h k => k.kept h
end Go.Proofs.Ytdobbindilibjaa.Kit
namespace Go.Proofs.Ytdobbindilibjaa
open Go Go.RowKit Kit
theorem isLeaf_leaf (v : Value) (s : List UInt8) (w : World) (h : At w v (.leaf s)) : Calls Try.prog 23 #[v] w fun e w' => e = .returned (.bool true) ∧ w = w' := by
  obtain ⟨k, rfl, hk⟩ := h
  obtain ⟨c0, -⟩ := box6 hk
  clear hk
  unfold ptr
  go_enter Try.func23, Try.ntmps23
  go_wp2
  go_ret
  exact ⟨rfl, rfl⟩
theorem isLeaf_node (v : Value) (l r : Tr) (w : World) (h : At w v (.node l r)) : Calls Try.prog 23 #[v] w fun e w' => e = .returned (.bool false) ∧ w = w' := by
  obtain ⟨k, a, b, rfl, hk, ha, hb⟩ := h
  obtain ⟨c0, -⟩ := box6 hk
  clear hk
  obtain ⟨j, _, _, _, rfl, -⟩ := ha.block
  clear ha hb
  unfold ptr at *
  go_enter Try.func23, Try.ntmps23
  go_wp2
  go_ret
  exact ⟨rfl, rfl⟩
theorem len_any (v : Value) (s : List UInt8) (w : World) (h : OL w v s) : Calls Try.prog 21 #[v] w fun e w' => e = .returned (.int .i64 s.length) ∧ w = w' := by
  obtain ⟨o, h1, -, rfl⟩ := h
  cases o with
  | none =>
    cases h1
    go_enter Try.func21, Try.ntmps21
    go_wp2
    go_ret
    exact ⟨rfl, rfl⟩
  | some t =>
    obtain ⟨k, a, b, s, rfl, hk⟩ := At.block h1
    obtain ⟨-, -, -, c3, -⟩ := box6 hk
    clear hk h1
    unfold ptr otext
    generalize t.text.length = n at *
    go_enter Try.func21, Try.ntmps21
    go_wp2
    go_ret
    exact ⟨rfl, rfl⟩
/-- How high the tree behind the pointer is. -/
def hgt (w : World) (u : Value) : Nat := match u with
  | .pointer (some a) => (match w.cell? ⟨a.block, 5, none⟩ with | some (.int _ h) => h.toNat | _ => 0)
  | _ => 0
theorem hgt_at {w : World} {u : Value} {t : Tr} (h : At w u t) : hgt w u = t.ht := by
  obtain ⟨k, a, b, s, rfl, hk⟩ := h.block
  obtain ⟨-, -, -, -, -, c5⟩ := box6 hk
  simp [hgt, ptr, c5]
theorem last_any (v : Value) (t : Tr) (w : World) (h : At w v t) : Calls Try.prog 36 #[v] w fun e w' => (∃ u, e = .returned u ∧ At w u (.leaf t.lastL)) ∧ w = w' := by
  have HV := Lib.hid h
  clear h
  go_enter Try.func36, Try.ntmps36
  go_wp2
  go_loop [0] (fun u => ∃ x : Tr, At w u x ∧ x.lastL = t.lastL) (fun u => hgt w u)
  case atStart => exact ⟨t, HV.out, rfl⟩
  case round =>
    obtain ⟨x, hx, hl⟩ := hrel
    cases x with
    | leaf s =>
      have H := Lib.hid (And.intro hx hl)
      obtain ⟨k, rfl, -⟩ := hx
      clear hl
      unfold ptr at *
      go_wp2_with fail
      refine (isLeaf_leaf _ s w H.out.1).mono ?_
      rintro e w1 ⟨rfl, rfl⟩
      go_wp2_with fail
      go_ret
      exact ⟨⟨_, rfl, by have := H.out.2; simp only [Tr.lastL] at this; rw [← this]; exact H.out.1⟩, rfl⟩
    | node l r =>
      have H := Lib.hid (And.intro hx hl)
      obtain ⟨k, a, b, rfl, hk, ha, hb⟩ := hx
      obtain ⟨c0, c1, -⟩ := box6 hk
      have hm := Lib.hid (And.intro (hgt_at ha) (hgt_at hb))
      have hm2 := Lib.hid (hgt_at H.out.1)
      have HA := Lib.hid (And.intro ha hb)
      obtain ⟨ka, _, _, _, rfl, -⟩ := ha.block
      obtain ⟨kb, _, _, _, rfl, -⟩ := hb.block
      clear hl hk ha hb
      unfold ptr at *
      go_wp2_with fail
      refine (isLeaf_node _ l r w H.out.1).mono ?_
      rintro e w1 ⟨rfl, rfl⟩
      go_wp2_with fail
      go_round
      case rel => exact ⟨_, HA.out.2, H.out.2⟩
      case measure => rw [hm2.out]; have := hm.out; simp only [this, Tr.ht]; omega
theorem first_any (v : Value) (t : Tr) (w : World) (h : At w v t) : Calls Try.prog 37 #[v] w fun e w' => (∃ u, e = .returned u ∧ At w u (.leaf t.firstL)) ∧ w = w' := by
  have HV := Lib.hid h
  clear h
  go_enter Try.func37, Try.ntmps37
  go_wp2
  go_loop [0] (fun u => ∃ x : Tr, At w u x ∧ x.firstL = t.firstL) (fun u => hgt w u)
  case atStart => exact ⟨t, HV.out, rfl⟩
  case round =>
    obtain ⟨x, hx, hl⟩ := hrel
    cases x with
    | leaf s =>
      have H := Lib.hid (And.intro hx hl)
      obtain ⟨k, rfl, -⟩ := hx
      clear hl
      unfold ptr at *
      go_wp2_with fail
      refine (isLeaf_leaf _ s w H.out.1).mono ?_
      rintro e w1 ⟨rfl, rfl⟩
      go_wp2_with fail
      go_ret
      exact ⟨⟨_, rfl, by have := H.out.2; simp only [Tr.firstL] at this; rw [← this]; exact H.out.1⟩, rfl⟩
    | node l r =>
      have H := Lib.hid (And.intro hx hl)
      obtain ⟨k, a, b, rfl, hk, ha, hb⟩ := hx
      obtain ⟨c0, c1, -⟩ := box6 hk
      have hm := Lib.hid (And.intro (hgt_at ha) (hgt_at hb))
      have hm2 := Lib.hid (hgt_at H.out.1)
      have HA := Lib.hid (And.intro ha hb)
      obtain ⟨ka, _, _, _, rfl, -⟩ := ha.block
      obtain ⟨kb, _, _, _, rfl, -⟩ := hb.block
      clear hl hk ha hb
      unfold ptr at *
      go_wp2_with fail
      refine (isLeaf_node _ l r w H.out.1).mono ?_
      rintro e w1 ⟨rfl, rfl⟩
      go_wp2_with fail
      go_round
      case rel => exact ⟨_, HA.out.1, H.out.2⟩
      case measure => rw [hm2.out]; have := hm.out; simp only [this, Tr.ht]; omega

set_option maxHeartbeats 2000000 in
theorem withLast_node (l r : Tr) (s : List UInt8) (v lv : Value) (w : World) (h : At w v (.node l r)) (hs : At w lv (.leaf s)) (hn : (Tr.node l r).text.length + s.length ≤ 100000000000000) (hok : (Tr.node l r).Ok)
    (ih : ∀ (v lv : Value) (s : List UInt8) (w : World), At w v r → At w lv (.leaf s) → r.text.length + s.length ≤ 100000000000000 → Calls Try.prog 38 #[v, lv] w (Ret Kept (fun u w' => At w' u (r.setLast s)) w)) :
    Calls Try.prog 38 #[v, lv] w (Ret Kept (fun u w' => At w' u (.node l (r.setLast s))) w) := by
  have HV := Lib.hid h
  obtain ⟨k, a, b, rfl, hk, ha, hb⟩ := h
  obtain ⟨c0, c1, -⟩ := box6 hk
  clear hk
  obtain ⟨ka, _, _, _, rfl, -⟩ := ha.block
  obtain ⟨kb, _, _, _, rfl, -⟩ := hb.block
  obtain ⟨kl, rfl, -⟩ := id hs
  simp only [Tr.text, List.length_append] at hn
  have HB := Lib.hid (And.intro (Nat.le_trans (l.ht_le hok.1) (by omega : _ ≤ 100000000000000)) (Nat.le_trans (r.ht_le hok.2.1) (by omega : _ ≤ 100000000000000)))
  clear hok
  have HL := Lib.hid ha
  have HR := Lib.hid hb
  have HS := Lib.hid hs
  have HN := Lib.hid hn
  have HI := Lib.hid ih
  clear ha hb hs hn ih
  unfold ptr at *
  go_enter Try.func38, Try.ntmps38
  go_wp2_with fail
  refine (isLeaf_node _ l r w HV.out).mono ?_
  rintro e w1 ⟨rfl, rfl⟩
  go_wp2_with fail
  refine wp_region_go Kept pre_kept [([(0, none)], none), ([(8, some 0)], none), ([(9, some 1)], none), ([(10, some 2)], none), ([(0, none)], none), ([(12, some 4)], none), ([(13, some 5)], none), ([(14, some 6)], none), ([(1, none)], none), ([(15, some 7), (16, some 8)], none), ([(11, some 3), (17, some 9)], none), ([(18, some 10)], none)] (by kernel_rfl) 19 rfl (by kernel_rfl) (by kernel_rfl) ?_
  apply go_val pre_kept
  · rintro ρ wr ⟨hg, hn, hc, hf, hgl⟩
    simp only [Need, fat, List.nil_append, List.cons_append, List.getD_cons_zero, List.getD_cons_succ, Fct.hold, and_true] at hn
    refine ⟨by simp [wantP, hn], ?_⟩
    simp [execOp, hn, hc, go_sem]
    exact rfl
  apply go_val pre_kept
  · rintro ρ wr ⟨hg, hn, hc, hf, hgl⟩
    simp only [Need, fat, List.nil_append, List.cons_append, List.getD_cons_zero, List.getD_cons_succ, Fct.hold, and_true] at hn
    refine ⟨by simp [wantP, hn], ?_⟩
    simp [execOp, hn, hc, go_sem]
    exact rfl
  apply go_val pre_kept
  · rintro ρ wr ⟨hg, hn, hc, hf, hgl⟩
    simp only [Need, fat, List.nil_append, List.cons_append, List.getD_cons_zero, List.getD_cons_succ, Fct.hold, and_true] at hn
    refine ⟨by simp [wantP, hn], ?_⟩
    simp [execOp, hn, hc, go_sem]
    exact rfl
  apply go_val pre_kept
  · rintro ρ wr ⟨hg, hn, hc, hf, hgl⟩
    simp only [Need, fat, List.nil_append, List.cons_append, List.getD_cons_zero, List.getD_cons_succ, Fct.hold, and_true] at hn
    have hl := And.intro (hg.cell c0) (hg.cell c1)
    refine ⟨by simp [wantP, hn], ?_⟩
    simp [execOp, hn, hc, hl, go_sem]
    exact rfl
  apply go_val pre_kept
  · rintro ρ wr ⟨hg, hn, hc, hf, hgl⟩
    simp only [Need, fat, List.nil_append, List.cons_append, List.getD_cons_zero, List.getD_cons_succ, Fct.hold, and_true] at hn
    refine ⟨by simp [wantP, hn], ?_⟩
    simp [execOp, hn, hc, go_sem]
    exact rfl
  apply go_val pre_kept
  · rintro ρ wr ⟨hg, hn, hc, hf, hgl⟩
    simp only [Need, fat, List.nil_append, List.cons_append, List.getD_cons_zero, List.getD_cons_succ, Fct.hold, and_true] at hn
    refine ⟨by simp [wantP, hn], ?_⟩
    simp [execOp, hn, hc, go_sem]
    exact rfl
  apply go_val pre_kept
  · rintro ρ wr ⟨hg, hn, hc, hf, hgl⟩
    simp only [Need, fat, List.nil_append, List.cons_append, List.getD_cons_zero, List.getD_cons_succ, Fct.hold, and_true] at hn
    refine ⟨by simp [wantP, hn], ?_⟩
    simp [execOp, hn, hc, go_sem]
    exact rfl
  apply go_val pre_kept
  · rintro ρ wr ⟨hg, hn, hc, hf, hgl⟩
    simp only [Need, fat, List.nil_append, List.cons_append, List.getD_cons_zero, List.getD_cons_succ, Fct.hold, and_true] at hn
    have hl := And.intro (hg.cell c0) (hg.cell c1)
    refine ⟨by simp [wantP, hn], ?_⟩
    simp [execOp, hn, hc, hl, go_sem]
    exact rfl
  apply go_val pre_kept
  · rintro ρ wr ⟨hg, hn, hc, hf, hgl⟩
    simp only [Need, fat, List.nil_append, List.cons_append, List.getD_cons_zero, List.getD_cons_succ, Fct.hold, and_true] at hn
    refine ⟨by simp [wantP, hn], ?_⟩
    simp [execOp, hn, hc, go_sem]
    exact rfl
  refine go_call (p := fun u w' => At w' u (r.setLast s)) (stab_at _) ?_ ?_
  · rintro ρ wr ⟨hg, hn, hc, hf, hgl⟩
    simp only [Need, fat, List.nil_append, List.cons_append, List.getD_cons_zero, List.getD_cons_succ, Fct.hold, and_true] at hn
    refine ⟨by simp [wantP, hn], _, _, by simp [execOp, hn, hf, hc, resolve, invoke, go_sem]; exact ⟨rfl, rfl⟩, ?_⟩
    exact HI.out _ _ s _ (HR.out.kept ((Kept.drew (Kept.refl _)).trans hg)) (HS.out.kept ((Kept.drew (Kept.refl _)).trans hg)) (by have := HN.out; omega)
  refine go_call (p := fun u w' => At w' u (.node l (r.setLast s))) (stab_at _) ?_ ?_
  · rintro ρ wr ⟨hg, hn, hc, hf, hgl⟩
    simp only [Need, fat, List.nil_append, List.cons_append, List.getD_cons_zero, List.getD_cons_succ, Fct.hold, and_true] at hn
    obtain ⟨hn1, hn2⟩ := hn
    refine ⟨by simp [wantP], _, _, by simp [execOp, hn1, hf, hc, resolve, invoke, go_sem]; exact ⟨rfl, rfl⟩, ?_⟩
    exact pair_any _ _ _ _ _ (HL.out.kept ((Kept.drew (Kept.refl _)).trans hg)) hn2 (by have := HB.out; omega) (by have := HB.out; rw [Tr.setLast_ht]; omega) (by have := HN.out; have := r.initT_le; rw [Tr.setLast_text, List.length_append]; omega)
  refine go_so pre_kept (p := fun u w' => At w' u (.node l (r.setLast s))) (stab_at _) ?_ ?_
  · rintro ρ wr ⟨hg, hn, hc, hf, hgl⟩
    simp only [Need, fat, List.nil_append, List.cons_append, List.getD_cons_zero, List.getD_cons_succ, Fct.hold, and_true] at hn
    exact ⟨by simp [wantP], _, by simp [execOp, go_sem], hn⟩
  intro w2 hk2
  simp only [Post, List.nil_append, List.cons_append, Act.put, List.setIfInBounds_toArray, List.set_cons_zero, List.set_cons_succ]
  intro u17 h17 u18 h18 u4 h4
  have H18 := Lib.hid (And.intro h4 hk2)
  clear h17 h18 h4 hk2
  rename_i K hK
  refine hK _ _ ?_
  obtain ⟨g, _, _, _, rfl, -⟩ := H18.out.1.block
  unfold ptr at *
  go_wp2_with fail
  go_ret
  exact ⟨_, rfl, H18.out.1, (Kept.drew (Kept.refl _)).trans H18.out.2⟩
theorem withLast_any : ∀ (t : Tr) (v lv : Value) (s : List UInt8) (w : World), At w v t → At w lv (.leaf s) → t.text.length + s.length ≤ 100000000000000 → t.Ok → Calls Try.prog 38 #[v, lv] w (Ret Kept (fun u w' => At w' u (t.setLast s)) w)
  | .node l r, v, lv, s, w, h, hs, hn, hok => withLast_node l r s v lv w h hs hn hok (fun v lv s w h1 h2 h3 => withLast_any r v lv s w h1 h2 h3 hok.2.1)
  | .leaf q, v, lv, s, w, h, hs, hn, hok => by
    have H := Lib.hid (And.intro h hs)
    obtain ⟨k, rfl, -⟩ := h
    obtain ⟨j, rfl, -⟩ := hs
    clear hn hok
    unfold ptr at *
    go_enter Try.func38, Try.ntmps38
    go_wp2_with fail
    refine (isLeaf_leaf _ q w H.out.1).mono ?_
    rintro e w1 ⟨rfl, rfl⟩
    go_wp2_with fail
    go_ret
    exact ⟨_, rfl, H.out.2, Kept.refl _⟩
set_option maxHeartbeats 2000000 in
theorem withoutFirst_node (l r : Tr) (v : Value) (w : World) (h : At w v (.node l r)) (hn : (Tr.node l r).text.length ≤ 100000000000000) (hok : (Tr.node l r).Ok)
    (ih : ∀ (v : Value) (w : World), At w v l → l.text.length ≤ 100000000000000 → Calls Try.prog 39 #[v] w (Ret Kept (fun u w' => OL w' u l.tailT) w)) :
    Calls Try.prog 39 #[v] w (Ret Kept (fun u w' => OL w' u (l.tailT ++ r.text)) w) := by
  have HV := Lib.hid h
  obtain ⟨k, a, b, rfl, hk, ha, hb⟩ := h
  obtain ⟨c0, c1, -⟩ := box6 hk
  clear hk
  obtain ⟨ka, _, _, _, rfl, -⟩ := ha.block
  obtain ⟨kb, _, _, _, rfl, -⟩ := hb.block
  simp only [Tr.text, List.length_append] at hn
  have HL := Lib.hid ha
  have HR := Lib.hid hb
  have HO := Lib.hid hok
  have HN := Lib.hid hn
  have HI := Lib.hid ih
  clear ha hb hn ih hok
  unfold ptr at *
  go_enter Try.func39, Try.ntmps39
  go_wp2_with fail
  refine (isLeaf_node _ l r w HV.out).mono ?_
  rintro e w1 ⟨rfl, rfl⟩
  go_wp2_with fail
  refine wp_region_go Kept pre_kept [([(0, none)], none), ([(5, some 0)], none), ([(6, some 1)], none), ([(7, some 2)], none), ([(8, some 3)], none), ([(0, none)], none), ([(10, some 5)], none), ([(11, some 6)], none), ([(12, some 7)], none), ([(9, some 4), (13, some 8)], none), ([(14, some 9)], none)] (by kernel_rfl) 15 rfl (by kernel_rfl) (by kernel_rfl) ?_
  apply go_val pre_kept
  · rintro ρ wr ⟨hg, hn, hc, hf, hgl⟩
    simp only [Need, fat, List.nil_append, List.cons_append, List.getD_cons_zero, List.getD_cons_succ, Fct.hold, and_true] at hn
    refine ⟨by simp [wantP, hn], ?_⟩
    simp [execOp, hn, hc, go_sem]
    exact rfl
  apply go_val pre_kept
  · rintro ρ wr ⟨hg, hn, hc, hf, hgl⟩
    simp only [Need, fat, List.nil_append, List.cons_append, List.getD_cons_zero, List.getD_cons_succ, Fct.hold, and_true] at hn
    refine ⟨by simp [wantP, hn], ?_⟩
    simp [execOp, hn, hc, go_sem]
    exact rfl
  apply go_val pre_kept
  · rintro ρ wr ⟨hg, hn, hc, hf, hgl⟩
    simp only [Need, fat, List.nil_append, List.cons_append, List.getD_cons_zero, List.getD_cons_succ, Fct.hold, and_true] at hn
    refine ⟨by simp [wantP, hn], ?_⟩
    simp [execOp, hn, hc, go_sem]
    exact rfl
  apply go_val pre_kept
  · rintro ρ wr ⟨hg, hn, hc, hf, hgl⟩
    simp only [Need, fat, List.nil_append, List.cons_append, List.getD_cons_zero, List.getD_cons_succ, Fct.hold, and_true] at hn
    have hl := And.intro (hg.cell c0) (hg.cell c1)
    refine ⟨by simp [wantP, hn], ?_⟩
    simp [execOp, hn, hc, hl, go_sem]
    exact rfl
  refine go_call (p := fun u w' => OL w' u l.tailT) (stab_ol _) ?_ ?_
  · rintro ρ wr ⟨hg, hn, hc, hf, hgl⟩
    simp only [Need, fat, List.nil_append, List.cons_append, List.getD_cons_zero, List.getD_cons_succ, Fct.hold, and_true] at hn
    refine ⟨by simp [wantP, hn], _, _, by simp [execOp, hn, hf, hc, resolve, invoke, go_sem]; exact ⟨rfl, rfl⟩, ?_⟩
    exact HI.out _ _ (HL.out.kept ((Kept.drew (Kept.refl _)).trans hg)) (by have := HN.out; omega)
  apply go_val pre_kept
  · rintro ρ wr ⟨hg, hn, hc, hf, hgl⟩
    simp only [Need, fat, List.nil_append, List.cons_append, List.getD_cons_zero, List.getD_cons_succ, Fct.hold, and_true] at hn
    refine ⟨by simp [wantP, hn], ?_⟩
    simp [execOp, hn, hc, go_sem]
    exact rfl
  apply go_val pre_kept
  · rintro ρ wr ⟨hg, hn, hc, hf, hgl⟩
    simp only [Need, fat, List.nil_append, List.cons_append, List.getD_cons_zero, List.getD_cons_succ, Fct.hold, and_true] at hn
    refine ⟨by simp [wantP, hn], ?_⟩
    simp [execOp, hn, hc, go_sem]
    exact rfl
  apply go_val pre_kept
  · rintro ρ wr ⟨hg, hn, hc, hf, hgl⟩
    simp only [Need, fat, List.nil_append, List.cons_append, List.getD_cons_zero, List.getD_cons_succ, Fct.hold, and_true] at hn
    refine ⟨by simp [wantP, hn], ?_⟩
    simp [execOp, hn, hc, go_sem]
    exact rfl
  apply go_val pre_kept
  · rintro ρ wr ⟨hg, hn, hc, hf, hgl⟩
    simp only [Need, fat, List.nil_append, List.cons_append, List.getD_cons_zero, List.getD_cons_succ, Fct.hold, and_true] at hn
    have hl := And.intro (hg.cell c0) (hg.cell c1)
    refine ⟨by simp [wantP, hn], ?_⟩
    simp [execOp, hn, hc, hl, go_sem]
    exact rfl
  refine go_call (p := fun u w' => OL w' u (l.tailT ++ r.text)) (stab_ol _) ?_ ?_
  · rintro ρ wr ⟨hg, hn, hc, hf, hgl⟩
    simp only [Need, fat, List.nil_append, List.cons_append, List.getD_cons_zero, List.getD_cons_succ, Fct.hold, and_true] at hn
    obtain ⟨hn1, hn2⟩ := hn
    refine ⟨by simp [wantP], _, _, by simp [execOp, hn2, hf, hc, resolve, invoke, go_sem]; exact ⟨rfl, rfl⟩, ?_⟩
    exact link_any _ _ _ _ _ hn1 (.of (HR.out.kept ((Kept.drew (Kept.refl _)).trans hg)) HO.out.2.1) (by have := HN.out; have := l.tailT_le; omega)
  refine go_so pre_kept (p := fun u w' => OL w' u (l.tailT ++ r.text)) (stab_ol _) ?_ ?_
  · rintro ρ wr ⟨hg, hn, hc, hf, hgl⟩
    simp only [Need, fat, List.nil_append, List.cons_append, List.getD_cons_zero, List.getD_cons_succ, Fct.hold, and_true] at hn
    exact ⟨by simp [wantP], _, by simp [execOp, go_sem], hn⟩
  intro w2 hk2
  simp only [Post, List.nil_append, List.cons_append, Act.put, List.setIfInBounds_toArray, List.set_cons_zero, List.set_cons_succ]
  intro u17 h17 u18 h18 u4 h4
  have H18 := Lib.hid (And.intro h4 hk2)
  clear h17 h18 h4 hk2
  rename_i K hK
  refine hK _ _ ?_
  obtain ⟨p, rfl⟩ := H18.out.1.ptr
  go_wp2_with fail
  go_ret
  exact ⟨_, rfl, H18.out.1, (Kept.drew (Kept.refl _)).trans H18.out.2⟩
theorem withoutFirst_any : ∀ (t : Tr) (v : Value) (w : World), At w v t → t.text.length ≤ 100000000000000 → t.Ok → Calls Try.prog 39 #[v] w (Ret Kept (fun u w' => OL w' u t.tailT) w)
  | .node l r, v, w, h, hn, hok => withoutFirst_node l r v w h hn hok (fun v w h1 h2 => withoutFirst_any l v w h1 h2 hok.1)
  | .leaf q, v, w, h, hn, hok => by
    have H := Lib.hid h
    obtain ⟨k, rfl, -⟩ := h
    clear hn hok
    unfold ptr at *
    go_enter Try.func39, Try.ntmps39
    go_wp2_with fail
    refine (isLeaf_leaf _ q w H.out).mono ?_
    rintro e w1 ⟨rfl, rfl⟩
    go_wp2_with fail
    go_ret
    exact ⟨_, rfl, OL.nil _, Kept.refl _⟩
end Go.Proofs.Ytdobbindilibjaa
