/-
  The document's maker of places in memory, and its link. Conditions: as the theorems say.
-/
import Derived.Test.YtdbffbdpofodmaaCd
import Derived.Test.YtdbffbdpofodmaaReg3
set_option linter.unusedSimpArgs false
namespace Go.Proofs.Ytdbffbdpofodmaa
open Go Go.RowKit Kit
/-- Memory goes on: all stays as it was but for the block g and the blocks of which O; O' are those behind. -/
def Mv (g : Nat) (O : Nat → Prop) (w w' : World) (O' : Nat → Prop) : Prop :=
  w'.os = w.os ∧ w'.tape = w.tape ∧ w'.output = w.output ∧ w.heap.size ≤ w'.heap.size ∧ ∀ k, k < w.heap.size → k ≠ g → ¬ O k → w'.heap[k]? = w.heap[k]? ∧ ¬ O' k
theorem Mv.refl (g : Nat) (O : Nat → Prop) (w : World) : Mv g O w w O := ⟨rfl, rfl, rfl, Nat.le_refl _, fun _k _ _ h => ⟨rfl, h⟩⟩
theorem Mv.trans {g : Nat} {O O' O'' : Nat → Prop} {a b c : World} (h : Mv g O a b O') (k : Mv g O' b c O'') : Mv g O a c O'' :=
  ⟨k.1.trans h.1, k.2.1.trans h.2.1, k.2.2.1.trans h.2.2.1, Nat.le_trans h.2.2.2.1 k.2.2.2.1, fun i hi hg ho => by
    obtain ⟨h1, h2⟩ := h.2.2.2.2 i hi hg ho
    obtain ⟨h3, h4⟩ := k.2.2.2.2 i (Nat.lt_of_lt_of_le hi h.2.2.2.1) hg h2
    exact ⟨h3.trans h1, h4⟩⟩
theorem Mv.kept {g : Nat} {O : Nat → Prop} {a b : World} (h : Kept a b) : Mv g O a b O := ⟨h.os, h.tape, h.output, h.size, fun k hk _ ho => ⟨h.block k hk, ho⟩⟩
theorem Mv.size {g : Nat} {O O' : Nat → Prop} {a b : World} (h : Mv g O a b O') : a.heap.size ≤ b.heap.size := h.2.2.2.1
theorem Mv.ls {g : Nat} {O O' : Nat → Prop} {w w' : World} (h : Mv g O w w' O') {v : Value} {xs : List Value} (hl : Ls (fun k => g < k ∧ ¬ O k) w v xs) : Ls (fun k => g < k ∧ ¬ O' k) w' v xs :=
  hl.keep fun k hk hs => by
    obtain ⟨h1, h2⟩ := h.2.2.2.2 k hk (by omega) hs.2
    exact ⟨⟨hs.1, h2⟩, h1⟩
theorem Mv.rx {g : Nat} {O O' : Nat → Prop} {w w' : World} (h : Mv g O w w' O') (hO : ∀ k, O k → g < k) {v : Value} {x : Rx} (hl : RxAt (· < g) w v x) : RxAt (· < g) w' v x :=
  hl.keep fun k hk hs => ⟨hs, (h.2.2.2.2 k hk (by omega) (fun ho => by have := hO k ho; omega)).1⟩
/-- A block of the call's own. -/
theorem Mv.blk {g : Nat} {O O' : Nat → Prop} {w w' : World} (h : Mv g O w w' O') {k : Nat} {o : Obj} (hk : w.heap[k]? = some o) (hg : k ≠ g) (ho : ¬ O k) : w'.heap[k]? = some o ∧ ¬ O' k := by
  obtain ⟨h1, h2⟩ := h.2.2.2.2 k (blk_lt hk) hg ho
  exact ⟨h1.trans hk, h2⟩
theorem Mv.set {g : Nat} {O O' : Nat → Prop} {a w : World} (h : Mv g O a w O') {p : Addr} (hp : p.block = g ∨ a.heap.size ≤ p.block ∨ O p.block) (u : Value) : Mv g O a (w.setCell p u) O' :=
  ⟨h.1, h.2.1, h.2.2.1, by simpa [World.setCell] using h.2.2.2.1, fun k hk hg ho => by
    obtain ⟨h1, h2⟩ := h.2.2.2.2 k hk hg ho
    refine ⟨Eq.trans ?_ h1, h2⟩
    have : ¬ p.block = k := by
      rintro rfl
      rcases hp with hp | hp | hp
      · exact hg hp
      · omega
      · exact ho hp
    simp [World.setCell, Array.getElem?_modify, this]⟩
theorem Mv.fresh {g : Nat} {O O' O2 : Nat → Prop} {a w : World} (h : Mv g O a w O') (hO : ∀ k, k < a.heap.size → O2 k → O' k) : Mv g O a w O2 :=
  ⟨h.1, h.2.1, h.2.2.1, h.2.2.2.1, fun k hk hg ho => ⟨(h.2.2.2.2 k hk hg ho).1, fun h2 => (h.2.2.2.2 k hk hg ho).2 (hO k hk h2)⟩⟩
/-- A row that grows by one of its own blocks. -/
theorem Mv.grown {g : Nat} {O : Nat → Prop} {w w' : World} {row : Option Nat} (h : w.grownBy w' row) (hr : ∀ b, row = some b → O b) : Mv g O w w' O :=
  ⟨h.os, h.tape, h.output, h.size, fun k hk _ ho => ⟨h.block k hk (fun e => ho (hr k e.symm)), ho⟩⟩
theorem box5 {w : World} {k : Nat} {a b c d e : Value} {t : TypeId} (hk : w.heap[k]? = some (.cells #[a, b, c, d, e] t (0, 0))) :
    (w.cell? ⟨k, 0, none⟩ = some a ∧ w.cell? ⟨k, 1, none⟩ = some b ∧ w.cell? ⟨k, 2, none⟩ = some c ∧ w.cell? ⟨k, 3, none⟩ = some d ∧ w.cell? ⟨k, 4, none⟩ = some e) ∧
    (w.frozen? ⟨k, 0, none⟩ = false ∧ w.frozen? ⟨k, 1, none⟩ = false ∧ w.frozen? ⟨k, 2, none⟩ = false ∧ w.frozen? ⟨k, 3, none⟩ = false ∧ w.frozen? ⟨k, 4, none⟩ = false) := by
  refine ⟨⟨?_, ?_, ?_, ?_, ?_⟩, ?_, ?_, ?_, ?_, ?_⟩
  iterate 5 rw [blk_cell hk]; rfl
  all_goals exact blk_free hk _
def c4 (s : BitVec 256) : List Value := [.int .u64 (wdN s 0), .int .u64 (wdN s 1), .int .u64 (wdN s 2), .int .u64 (wdN s 3)]
def own2 (vS vF : Value) (k : Nat) : Prop := vS.ownBlock = some k ∨ vF.ownBlock = some k
def MO (vS vF : Value) : Obj := .cells #[vS, .bool false, .slice none 0 0, .slice none 0 0, vF] 71
/-- The maker at g: the sets, and what follows which. -/
structure StM (g : Nat) (w : World) (vS vF : Value) (fs : List Value) (st : Ps) : Prop where
  obj : w.heap[g]? = some (MO vS vF)
  sets : Rn 23 4 (g + 1) w vS (st.sets.map c4)
  fol : R1 30 (g + 1) w vF fs
  len : fs.length = st.fol.length
  each : ∀ (i : Nat) (f : Value) (l : List Nat), fs[i]? = some f → st.fol[i]? = some l → Ls (fun k => g < k ∧ ¬ own2 vS vF k) w f (ints l)
  apart : ∀ k, vS.ownBlock = some k → vF.ownBlock ≠ some k
theorem StM.gt {g : Nat} {w : World} {vS vF : Value} {fs : List Value} {st : Ps} (h : StM g w vS vF fs st) : ∀ k, own2 vS vF k → g < k ∧ k < w.heap.size := fun k hk => by
  rcases hk with hk | hk
  · have := h.sets.own k hk; omega
  · have := h.fol.own k hk; omega
theorem StM.kept {g : Nat} {w w' : World} {vS vF : Value} {fs : List Value} {st : Ps} (h : StM g w vS vF fs st) (hk : Kept w w') : StM g w' vS vF fs st :=
  ⟨hk.blk h.obj, h.sets.kept hk, h.fol.kept hk, h.len, fun i f l hf hl => (h.each i f l hf hl).kept hk, h.apart⟩
/-- One of the follow lists turned. -/
theorem StM.turn {g b n cap i : Nat} {w : World} {vS : Value} {fs : List Value} {st : Ps} {u : Value} {l : List Nat} (h : StM g w vS (.slice (some ⟨b, 0, none⟩) n cap) fs st)
    (hu : Ls (fun k => g < k ∧ ¬ own2 vS (.slice (some ⟨b, 0, none⟩) n cap) k) w u (ints l)) :
    StM g (w.setCell ⟨b, i, none⟩ u) vS (.slice (some ⟨b, 0, none⟩) n cap) (fs.set i u) ⟨st.sets, st.fol.set i l⟩ := by
  have hb := h.gt b (.inr rfl)
  have keep : ∀ {v : Value} {xs : List Value}, Ls (fun k => g < k ∧ ¬ own2 vS (.slice (some ⟨b, 0, none⟩) n cap) k) w v xs → Ls (fun k => g < k ∧ ¬ own2 vS (.slice (some ⟨b, 0, none⟩) n cap) k) (w.setCell ⟨b, i, none⟩ u) v xs := fun hl => hl.keep fun k hk hs => by
    refine ⟨hs, ?_⟩
    have : ¬ b = k := fun e => hs.2 (.inr (by rw [← e]; rfl))
    simp [World.setCell, Array.getElem?_modify, this]
  refine ⟨blk_aside h.obj (by simp only []; omega) _, h.sets.same fun k hk => ?_, h.fol.set i u, by simp [h.len], fun j f l' hf hl => ?_, h.apart⟩
  · have : ¬ b = k := fun e => h.apart k hk (by rw [← e]; rfl)
    simp [World.setCell, Array.getElem?_modify, this]
  · by_cases e : i = j
    · subst e
      rw [List.getElem?_set, if_pos rfl] at hf hl
      by_cases h1 : i < fs.length
      · rw [if_pos h1] at hf
        rw [if_pos (by rw [← h.len]; exact h1)] at hl
        injection hf with hf
        injection hl with hl
        subst hf hl
        exact keep hu
      · rw [if_neg h1] at hf
        cases hf
    · rw [List.getElem?_set_ne e] at hf hl
      exact keep (h.each j f l' hf hl)
def LnkSaid (g : Nat) (vS vF : Value) (sets : List (BitVec 256)) (fol : List (List Nat)) (w : World) (e : Ending) (w' : World) : Prop := e = .returned (.tuple #[]) ∧ ∃ fs, StM g w' vS vF fs ⟨sets, fol⟩ ∧ Mv g (own2 vS vF) w w' (own2 vS vF)
set_option maxRecDepth 100000 in
set_option maxHeartbeats 8000000 in
theorem rlink_go (g b nf capf : Nat) (vS : Value) (fs0 : List Value) (st : Ps) (A : Option Addr) (ca : Nat) (vl : Value) (fr l : List Nat) (w : World) (h : StM g w vS (.slice (some ⟨b, 0, none⟩) nf capf) fs0 st) (hok : Ok st) (hS : st.sets.length ≤ 150)
    (hf : Ls (fun k => g < k ∧ ¬ own2 vS (.slice (some ⟨b, 0, none⟩) nf capf) k) w (.slice A fr.length ca) (ints fr)) (hl : Ls (fun k => g < k ∧ ¬ own2 vS (.slice (some ⟨b, 0, none⟩) nf capf) k) w vl (ints l)) (hfr : ∀ i ∈ fr, i < st.sets.length) (hup : Up st.sets.length l) (R : List (List Nat)) (HR : Hid (linkP st.fol fr l = R)) :
    Calls Try.prog 43 #[ptr g, .slice A fr.length ca, vl] w (LnkSaid g vS (.slice (some ⟨b, 0, none⟩) nf capf) st.sets R w) := by
  have H := Lib.hid h
  have HF := Lib.hid hf
  have HL := Lib.hid hl
  have HOK := Lib.hid (And.intro hok (And.intro hfr hup))
  have hnf : nf = st.sets.length := by
    obtain ⟨A', cap', e⟩ := h.fol.form
    injection e with e1 e2 e3
    rw [e2, h.len, hok.1]
  have hfl : fr.length ≤ 9223372036854775807 := by
    obtain ⟨A', cap', e, h1, h2, -⟩ := hf
    rw [ints_len] at h1
    unfold maxLen at h2
    omega
  have HNF := Lib.hid hnf
  clear h hf hl hok hfr hup hnf
  unfold ptr
  go_enter Try.func43, Try.ntmps43
  go_wp2_with fail
  go_loopw [6] (fun vi wr => ∃ (i : Nat) (fs : List Value) (fol : List (List Nat)), vi = .int .i64 i ∧ i ≤ fr.length ∧ linkP fol (fr.drop i) l = R ∧ StM g wr vS (.slice (some ⟨b, 0, none⟩) nf capf) fs ⟨st.sets, fol⟩ ∧ Ok ⟨st.sets, fol⟩ ∧ Mv g (own2 vS (.slice (some ⟨b, 0, none⟩) nf capf)) w wr (own2 vS (.slice (some ⟨b, 0, none⟩) nf capf))) (fun vi _ => fr.length - (intOf vi).toNat)
  case atStart => exact ⟨0, fs0, st.fol, rfl, Nat.zero_le _, HR.out, H.out, HOK.out.1, Mv.refl _ _ _⟩
  case round =>
    clear H HR
    obtain ⟨i, fs, fol, rfl, hi, hr, hst, hok, hmv⟩ := hrel
    have H := Lib.hid hst
    have HR := Lib.hid hr
    have HM := Lib.hid hmv
    have HO := Lib.hid hok
    clear hst hr hmv hok
    have hi0 : (0 : Int) ≤ i := by omega
    by_cases hlt : i < fr.length
    · have hlti : (i : Int) < fr.length := by omega
      have hib : (i : Int) + 1 ≤ 9223372036854775807 := by omega
      obtain ⟨n, hn⟩ : ∃ n, fr[i]? = some n := ⟨_, List.getElem?_eq_getElem hlt⟩
      have HFW := Lib.hid (HM.out.ls HF.out)
      have HLL := Lib.hid (HM.out.ls HL.out)
      obtain ⟨pf, of, rfl, -, hcf⟩ := HFW.out.at (ints_get hn)
      have HFR := Lib.hid hcf
      have hnl : n < st.sets.length := HOK.out.2.1 n (List.mem_of_getElem? hn)
      have hnn : n < nf := by have := HNF.out; omega
      have hni : (n : Int) < nf := by omega
      have hn0 : (0 : Int) ≤ n := by omega
      have hflen : fol.length = st.sets.length := HO.out.1
      have hfsl : fs.length = fol.length := H.out.len
      obtain ⟨f, hfn⟩ : ∃ f, fs[n]? = some f := ⟨_, List.getElem?_eq_getElem (by omega)⟩
      obtain ⟨lf, hlf⟩ : ∃ lf, fol[n]? = some lf := ⟨_, List.getElem?_eq_getElem (by omega)⟩
      have HFN := Lib.hid (H.out.fol.at.2.2 n f hfn)
      have HLF := Lib.hid (H.out.each n f lf hfn hlf)
      have hll1 : lf.length ≤ 1000 := by have := (HO.out.2 lf (List.mem_of_getElem? hlf)).len; simp only [] at this; omega
      have hll2 : l.length ≤ 1000 := by have := HOK.out.2.2.len; omega
      have HRN : Hid (linkP (fol.set n (uni lf l)) (fr.drop (i + 1)) l = R) := Lib.hid (by
        rw [← HR.out, drop_at hn, linkP, List.getD_eq_getElem?_getD, hlf]; rfl)
      have HON : Hid (Ok ⟨st.sets, fol.set n (uni lf l)⟩) := Lib.hid ⟨by rw [List.length_set]; exact HO.out.1, fun x hx => by
        rcases List.mem_or_eq_of_mem_set hx with hx | rfl
        · exact HO.out.2 x hx
        · exact (HO.out.2 lf (List.mem_of_getElem? hlf)).uni HOK.out.2.2⟩
      clear HR hfn hlf hn hcf HFW
      have hbz := H.out.gt b (.inr rfl)
      have hz := Lib.hid (blk_lt H.out.obj)
      obtain ⟨⟨m0, m1, m2, m3, m4⟩, -⟩ := box5 H.out.obj
      go_wp2_with fail
      refine wp_region_fin' (by simp only [List.dropLast_cons_cons, List.dropLast_singleton]; exact rfl) (by simp only [List.getLast?_cons_cons, List.getLast?_singleton]; exact rfl) Kept pre_kept [([(0, none)], none), ([(13, some 0)], none), ([(14, some 1)], none), ([(15, some 2)], none), ([(16, some 3)], none), ([(1, none)], none), ([(6, none)], none), ([(18, some 5), (19, some 6)], none), ([(20, some 7)], none), ([(0, none)], none), ([(22, some 9)], none), ([(23, some 10)], none), ([(24, some 11)], none), ([(25, some 12)], none), ([(1, none)], none), ([(6, none)], none), ([(27, some 14), (28, some 15)], none), ([(29, some 16)], none), ([(26, some 13), (30, some 17)], none), ([(31, some 18)], none), ([(2, none)], none), ([(32, some 19), (33, some 20)], none), ([(17, some 4), (21, some 8)], none), ([(35, some 22), (34, some 21)], none)] (by kernel_rfl) 36 rfl (by kernel_rfl) (by kernel_rfl) rfl ?_
      apply go_val pre_kept
      · rintro ρ wr ⟨hg, hn, hc, hf, hgl⟩
        simp only [Need, fat, List.nil_append, List.cons_append, List.getD_cons_zero, List.getD_cons_succ, Fct.hold, and_true] at hn
        refine ⟨by simp [wantP, hn], ?_⟩
        simp [execOp, hn, hc, go_sem]
        exact rfl
      apply go_val pre_kept
      · rintro ρ wr ⟨hg, hn, hc, hf, hgl⟩
        simp only [Need, fat, List.nil_append, List.cons_append, List.getD_cons_zero, List.getD_cons_succ, Fct.hold, and_true] at hn
        refine ⟨by simp [wantP, hn], ?_⟩
        simp [execOp, hn, hc, go_sem]
        exact rfl
      apply go_val pre_kept
      · rintro ρ wr ⟨hg, hn, hc, hf, hgl⟩
        simp only [Need, fat, List.nil_append, List.cons_append, List.getD_cons_zero, List.getD_cons_succ, Fct.hold, and_true] at hn
        refine ⟨by simp [wantP, hn], ?_⟩
        simp [execOp, hn, hc, go_sem]
        exact rfl
      apply go_val pre_kept
      · rintro ρ wr ⟨hg, hn, hc, hf, hgl⟩
        simp only [Need, fat, List.nil_append, List.cons_append, List.getD_cons_zero, List.getD_cons_succ, Fct.hold, and_true] at hn
        refine ⟨by simp [wantP, hn], ?_⟩
        simp [execOp, hn, hc, go_sem]
        exact rfl
      apply go_val (x := .slice (some ⟨b, 0, none⟩) nf capf) pre_kept
      · rintro ρ wr ⟨hg, hn, hc, hf, hgl⟩
        simp only [Need, fat, List.nil_append, List.cons_append, List.getD_cons_zero, List.getD_cons_succ, Fct.hold, and_true] at hn
        refine ⟨by simp [wantP, hn], ?_⟩
        simp [execOp, hn, hc, go_sem, hg.cell m4]
      apply go_val pre_kept
      · rintro ρ wr ⟨hg, hn, hc, hf, hgl⟩
        simp only [Need, fat, List.nil_append, List.cons_append, List.getD_cons_zero, List.getD_cons_succ, Fct.hold, and_true] at hn
        refine ⟨by simp [wantP, hn], ?_⟩
        simp [execOp, hn, hc, go_sem]
        exact rfl
      apply go_val pre_kept
      · rintro ρ wr ⟨hg, hn, hc, hf, hgl⟩
        simp only [Need, fat, List.nil_append, List.cons_append, List.getD_cons_zero, List.getD_cons_succ, Fct.hold, and_true] at hn
        refine ⟨by simp [wantP, hn], ?_⟩
        simp [execOp, hn, hc, go_sem]
        exact rfl
      apply go_val (x := .pointer (some ⟨pf, of + i, none⟩)) pre_kept
      · rintro ρ wr ⟨hg, hn, hc, hf, hgl⟩
        simp only [Need, fat, List.nil_append, List.cons_append, List.getD_cons_zero, List.getD_cons_succ, Fct.hold, and_true] at hn
        refine ⟨by simp [wantP, hn], ?_⟩
        simp [execOp, hn, hc, go_sem, hlti, hlt, hi0]
      apply go_val (x := .int .i64 (n : Int)) pre_kept
      · rintro ρ wr ⟨hg, hn, hc, hf, hgl⟩
        simp only [Need, fat, List.nil_append, List.cons_append, List.getD_cons_zero, List.getD_cons_succ, Fct.hold, and_true] at hn
        refine ⟨by simp [wantP, hn], ?_⟩
        simp [execOp, hn, hc, go_sem, hg.cell HFR.out]
      apply go_val pre_kept
      · rintro ρ wr ⟨hg, hn, hc, hf, hgl⟩
        simp only [Need, fat, List.nil_append, List.cons_append, List.getD_cons_zero, List.getD_cons_succ, Fct.hold, and_true] at hn
        refine ⟨by simp [wantP, hn], ?_⟩
        simp [execOp, hn, hc, go_sem]
        exact rfl
      apply go_val pre_kept
      · rintro ρ wr ⟨hg, hn, hc, hf, hgl⟩
        simp only [Need, fat, List.nil_append, List.cons_append, List.getD_cons_zero, List.getD_cons_succ, Fct.hold, and_true] at hn
        refine ⟨by simp [wantP, hn], ?_⟩
        simp [execOp, hn, hc, go_sem]
        exact rfl
      apply go_val pre_kept
      · rintro ρ wr ⟨hg, hn, hc, hf, hgl⟩
        simp only [Need, fat, List.nil_append, List.cons_append, List.getD_cons_zero, List.getD_cons_succ, Fct.hold, and_true] at hn
        refine ⟨by simp [wantP, hn], ?_⟩
        simp [execOp, hn, hc, go_sem]
        exact rfl
      apply go_val pre_kept
      · rintro ρ wr ⟨hg, hn, hc, hf, hgl⟩
        simp only [Need, fat, List.nil_append, List.cons_append, List.getD_cons_zero, List.getD_cons_succ, Fct.hold, and_true] at hn
        refine ⟨by simp [wantP, hn], ?_⟩
        simp [execOp, hn, hc, go_sem]
        exact rfl
      apply go_val (x := .slice (some ⟨b, 0, none⟩) nf capf) pre_kept
      · rintro ρ wr ⟨hg, hn, hc, hf, hgl⟩
        simp only [Need, fat, List.nil_append, List.cons_append, List.getD_cons_zero, List.getD_cons_succ, Fct.hold, and_true] at hn
        refine ⟨by simp [wantP, hn], ?_⟩
        simp [execOp, hn, hc, go_sem, hg.cell m4]
      apply go_val pre_kept
      · rintro ρ wr ⟨hg, hn, hc, hf, hgl⟩
        simp only [Need, fat, List.nil_append, List.cons_append, List.getD_cons_zero, List.getD_cons_succ, Fct.hold, and_true] at hn
        refine ⟨by simp [wantP, hn], ?_⟩
        simp [execOp, hn, hc, go_sem]
        exact rfl
      apply go_val pre_kept
      · rintro ρ wr ⟨hg, hn, hc, hf, hgl⟩
        simp only [Need, fat, List.nil_append, List.cons_append, List.getD_cons_zero, List.getD_cons_succ, Fct.hold, and_true] at hn
        refine ⟨by simp [wantP, hn], ?_⟩
        simp [execOp, hn, hc, go_sem]
        exact rfl
      apply go_val (x := .pointer (some ⟨pf, of + i, none⟩)) pre_kept
      · rintro ρ wr ⟨hg, hn, hc, hf, hgl⟩
        simp only [Need, fat, List.nil_append, List.cons_append, List.getD_cons_zero, List.getD_cons_succ, Fct.hold, and_true] at hn
        refine ⟨by simp [wantP, hn], ?_⟩
        simp [execOp, hn, hc, go_sem, hlti, hlt, hi0]
      apply go_val (x := .int .i64 (n : Int)) pre_kept
      · rintro ρ wr ⟨hg, hn, hc, hf, hgl⟩
        simp only [Need, fat, List.nil_append, List.cons_append, List.getD_cons_zero, List.getD_cons_succ, Fct.hold, and_true] at hn
        refine ⟨by simp [wantP, hn], ?_⟩
        simp [execOp, hn, hc, go_sem, hg.cell HFR.out]
      apply go_val (x := .pointer (some ⟨b, n, none⟩)) pre_kept
      · rintro ρ wr ⟨hg, hn, hc, hf, hgl⟩
        simp only [Need, fat, List.nil_append, List.cons_append, List.getD_cons_zero, List.getD_cons_succ, Fct.hold, and_true] at hn
        refine ⟨by simp [wantP, hn], ?_⟩
        simp [execOp, hn, hc, go_sem, hni, hnn, hn0]
      apply go_val (x := f) pre_kept
      · rintro ρ wr ⟨hg, hn, hc, hf, hgl⟩
        simp only [Need, fat, List.nil_append, List.cons_append, List.getD_cons_zero, List.getD_cons_succ, Fct.hold, and_true] at hn
        refine ⟨by simp [wantP, hn], ?_⟩
        simp [execOp, hn, hc, go_sem, hg.cell HFN.out]
      apply go_val pre_kept
      · rintro ρ wr ⟨hg, hn, hc, hf, hgl⟩
        simp only [Need, fat, List.nil_append, List.cons_append, List.getD_cons_zero, List.getD_cons_succ, Fct.hold, and_true] at hn
        refine ⟨by simp [wantP, hn], ?_⟩
        simp [execOp, hn, hc, go_sem]
        exact rfl
      refine go_call (p := fun v w' => Ls (fun k => wr.drew.heap.size ≤ k) w' v (ints (uni lf l))) (fun _ _ _ hk h => h.kept hk) ?_ ?_
      · rintro ρ wr ⟨hg, hn, hc, hf, hgl⟩
        simp only [Need, fat, List.nil_append, List.cons_append, List.getD_cons_zero, List.getD_cons_succ, Fct.hold, and_true] at hn
        refine ⟨by simp [wantP], _, _, by simp [execOp, hn, hf, hc, resolve, invoke, go_sem]; exact ⟨rfl, rfl⟩, ?_⟩
        refine (union_any _ _ _ _ lf l _ (HLF.out.kept ((Kept.drew (Kept.refl _)).trans hg)) (HLL.out.kept ((Kept.drew (Kept.refl _)).trans hg)) hll1 hll2).mono fun e w' ⟨v, h1, h2, h3⟩ => ⟨v, h1, h2.weak fun k _ hk => Nat.le_trans hg.size hk, h3⟩
      apply go_val (x := .pointer (some ⟨b, n, none⟩)) pre_kept
      · rintro ρ wr ⟨hg, hn, hc, hf, hgl⟩
        simp only [Need, fat, List.nil_append, List.cons_append, List.getD_cons_zero, List.getD_cons_succ, Fct.hold, and_true] at hn
        refine ⟨by simp [wantP, hn], ?_⟩
        simp [execOp, hn, hc, go_sem, hni, hnn, hn0]
      intro w2 hk2
      simp only [Post, List.nil_append, List.cons_append, Act.put, List.setIfInBounds_toArray, List.set_cons_zero, List.set_cons_succ]
      rintro u hu
      have hk3 := (Kept.drew (Kept.refl _)).trans hk2
      have HU : Hid (Ls (fun k => g < k ∧ ¬ own2 vS (.slice (some ⟨b, 0, none⟩) nf capf) k) w2 u (ints (uni lf l))) := Lib.hid (hu.weak fun k _ hk => by
        have hz2 : wr.heap.size ≤ k := hk
        refine ⟨by have := hz.out; omega, fun ho => ?_⟩
        have := H.out.gt k ho
        omega)
      obtain ⟨A3, c3, rfl⟩ := hu.form
      have H2 := Lib.hid (H.out.kept hk3)
      have HM2 := Lib.hid (HM.out.trans (Mv.kept hk3))
      have hcn := hk3.cell HFN.out
      have hfz := H2.out.fol.at.2.1 n
      have HT := Lib.hid (H2.out.turn (i := n) HU.out)
      have HMT := Lib.hid (HM2.out.set (p := ⟨b, n, none⟩) (.inr (.inr (.inr rfl))) (.slice A3 (ints (uni lf l)).length c3))
      clear hu hk2 hk3 m0 m1 m2 m3 m4 HFR HFN HLF HLL H HM H2 HM2 HU
      rename_i hK
      unfold Oper.wp execOp
      go_simp
      refine hK _ _ ?_
      clear hK hcn hfz
      go_wp2_with fail
      go_roundw
      case rel => exact ⟨i + 1, _, _, by go_num, by omega, HRN.out, HT.out, HON.out, HMT.out⟩
      case measure => simp [intOf]; omega
    · have hge : ¬ (i : Int) < fr.length := by omega
      have e : fol = R := by rw [← HR.out, List.drop_eq_nil_of_le (by omega), linkP]
      subst e
      go_wp2_with fail
      go_end0
      exact ⟨rfl, fs, H.out, HM.out⟩
theorem rlink_any (g : Nat) (vS vF : Value) (fs0 : List Value) (st : Ps) (vr vl : Value) (fr l : List Nat) (w : World) (h : StM g w vS vF fs0 st) (hok : Ok st) (hS : st.sets.length ≤ 150)
    (hf : Ls (fun k => g < k ∧ ¬ own2 vS vF k) w vr (ints fr)) (hl : Ls (fun k => g < k ∧ ¬ own2 vS vF k) w vl (ints l)) (hfr : Up st.sets.length fr) (hup : Up st.sets.length l) :
    Calls Try.prog 43 #[ptr g, vr, vl] w (LnkSaid g vS vF st.sets (linkP st.fol fr l) w) := by
  obtain ⟨A, ca, rfl⟩ := hf.form
  simp only [ints_len] at *
  match fr, hfr, hf with
  | [], hfr, hf =>
    have H := Lib.hid h
    clear h hf hl hok hfr hup
    unfold ptr
    rw [linkP]
    go_enter Try.func43, Try.ntmps43
    go_wp2_with fail
    go_loopw [6] (fun vi wr => vi = .int .i64 0 ∧ wr = w) (fun _ _ => 0)
    case atStart => exact ⟨rfl, rfl⟩
    case round =>
      obtain ⟨rfl, rfl⟩ := hrel
      go_wp2_with fail
      go_end0
      exact ⟨rfl, fs0, H.out, Mv.refl _ _ _⟩
  | i :: r, hfr, hf =>
    have hi := hfr.2 i (by simp)
    have hl0 : fs0.length = st.sets.length := by rw [h.len, hok.1]
    obtain ⟨b, cap, rfl, -, -⟩ := h.fol.blkOf (j := 0) (y := fs0[0]'(by omega)) (List.getElem?_eq_getElem _)
    exact rlink_go g b fs0.length cap vS fs0 st A ca vl (i :: r) l w h hok hS hf hl hfr.2 hup _ (Lib.hid rfl)
end Go.Proofs.Ytdbffbdpofodmaa
