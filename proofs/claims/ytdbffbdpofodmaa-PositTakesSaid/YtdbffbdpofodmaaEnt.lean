/-
  What posit's walk does with a list of places. Conditions: the walk's own rows are apart.
-/
import Derived.Test.YtdbffbdpofodmaaTk
set_option linter.unusedSimpArgs false
namespace Go.Proofs.Ytdbffbdpofodmaa
open Go Go.RowKit Kit
/-- Where a walk of posit stands: its object at b, its rows among the blocks from base on. -/
structure TkS (b base : Nat) (w : World) (p0 p2 p3 p4 : Value) (p : Pt) (st : Ps) (k : Nat) (vn vs vt : Value) (N M T : List Nat) : Prop where
  obj : w.heap[b]? = some (WO p0 p.null p2 p3 p4 k vn vs vt)
  pos : PosAt (· < base) w (.agg #[p0, .bool p.null, p2, p3, p4]) p st
  now : R1 3 base w vn (ints N)
  spare : R1 3 base w vs (ints M)
  taken : R1 3 base w vt (ints T)
  len : T.length = st.sets.length
  bb : base ≤ b
  b1 : vn.ownBlock ≠ some b
  b2 : vs.ownBlock ≠ some b
  b3 : vt.ownBlock ≠ some b
  a1 : ∀ q, vn.ownBlock = some q → vs.ownBlock ≠ some q
  a2 : ∀ q, vn.ownBlock = some q → vt.ownBlock ≠ some q
  a3 : ∀ q, vs.ownBlock = some q → vt.ownBlock ≠ some q
theorem TkS.kept {b base : Nat} {w w' : World} {p0 p2 p3 p4 : Value} {p : Pt} {st : Ps} {k : Nat} {vn vs vt : Value} {N M T : List Nat} (h : TkS b base w p0 p2 p3 p4 p st k vn vs vt N M T) (hk : Kept w w') : TkS b base w' p0 p2 p3 p4 p st k vn vs vt N M T :=
  ⟨hk.blk h.obj, h.pos.kept hk, h.now.kept hk, h.spare.kept hk, h.taken.kept hk, h.len, h.bb, h.b1, h.b2, h.b3, h.a1, h.a2, h.a3⟩
/-- The step of a place is laid down. -/
theorem TkS.mark {b base q n cap i : Nat} {w : World} {p0 p2 p3 p4 : Value} {p : Pt} {st : Ps} {k : Nat} {vn vs : Value} {N M T : List Nat} (h : TkS b base w p0 p2 p3 p4 p st k vn vs (.slice (some ⟨q, 0, none⟩) n cap) N M T) (j : Nat) :
    TkS b base (w.setCell ⟨q, i, none⟩ (.int .i64 (j : Nat))) p0 p2 p3 p4 p st k vn vs (.slice (some ⟨q, 0, none⟩) n cap) N M (T.set i j) := by
  have hq := h.taken.own q rfl
  have hbq : b ≠ q := fun e => h.b3 (by rw [e]; rfl)
  refine ⟨(set_other hbq).trans h.obj, h.pos.keep fun x _ hx => ⟨hx, set_other (by omega)⟩, h.now.same fun x hx => set_other (fun e => h.a2 x hx (by rw [e]; rfl)), h.spare.same fun x hx => set_other (fun e => h.a3 x hx (by rw [e]; rfl)), ?_, by rw [List.length_set]; exact h.len, h.bb, h.b1, h.b2, h.b3, h.a1, h.a2, h.a3⟩
  have := h.taken.set i (.int .i64 (j : Nat))
  have e : ints (T.set i j) = (ints T).set i (.int .i64 (j : Nat)) := by unfold ints; rw [List.map_set]
  rw [e]
  exact this
/-- One more place now. -/
theorem TkS.push {b base : Nat} {w w' : World} {p0 p2 p3 p4 : Value} {p : Pt} {st : Ps} {k : Nat} {vn vs vt v : Value} {N M T : List Nat} {i : Nat} (h : TkS b base w p0 p2 p3 p4 p st k vn vs vt N M T) (hg : w.grownBy w' vn.ownBlock) (hr : R1 3 base w' v (ints N ++ [.int .i64 (i : Nat)])) (ho : v.ownBlock = vn.ownBlock ∨ v.ownBlock = some w.heap.size) :
    TkS b base (w'.setCell ⟨b, 6, none⟩ v) p0 p2 p3 p4 p st k v vs vt (N ++ [i]) M T := by
  have hbl := blk_lt h.obj
  have hbb := h.bb
  have same : ∀ x, x < w.heap.size → x ≠ b → vn.ownBlock ≠ some x → (w'.setCell ⟨b, 6, none⟩ v).heap[x]? = w.heap[x]? := fun x h1 h2 h3 =>
    (set_other h2).trans (hg.block x h1 (fun e => h3 e.symm))
  have vb : v.ownBlock ≠ some b := fun e => by
    rcases ho with h1 | h1
    · rw [h1] at e; exact h.b1 e
    · rw [h1] at e; injection e with e; omega
  refine ⟨?_, h.pos.keep fun x hx hs => ⟨hs, same x hx (by omega) (fun e => by have := (h.now.own x e).1; omega)⟩, ?_, h.spare.same fun x hx => same x (h.spare.own x hx).2 (fun e => h.b2 (by rw [hx, e])) (fun e => h.a1 x e hx), h.taken.same fun x hx => same x (h.taken.own x hx).2 (fun e => h.b3 (by rw [hx, e])) (fun e => h.a2 x e hx), h.len, h.bb, vb, h.b2, h.b3, fun x hx hy => ?_, fun x hx hy => ?_, h.a3⟩
  · have : w'.heap[b]? = some (WO p0 p.null p2 p3 p4 k vn vs vt) := (hg.block b hbl (fun e => h.b1 e.symm)).trans h.obj
    unfold WO at *
    simp [World.setCell, Array.getElem?_modify, this]
  · have e : ints (N ++ [i]) = ints N ++ [.int .i64 (i : Nat)] := by unfold ints; simp
    rw [e]
    exact hr.same fun x hx => set_other (fun e => vb (by rw [hx, e]))
  · rcases ho with h1 | h1
    · rw [h1] at hx; exact h.a1 x hx hy
    · rw [h1] at hx; injection hx with hx; have := (h.spare.own x hy).2; omega
  · rcases ho with h1 | h1
    · rw [h1] at hx; exact h.a2 x hx hy
    · rw [h1] at hx; injection hx with hx; have := (h.taken.own x hy).2; omega
/-- What is gone on to. -/
def entP (sets : List (BitVec 256)) (k : Nat) (c : Nat) : List Nat → List Nat → List Nat → List Nat × List Nat
  | [], N, T => (N, T)
  | i :: r, N, T => if T[i]? ≠ none ∧ T[i]? ≠ some k ∧ (sets.getD i 0#256).getLsbD c = true then entP sets k c r (N ++ [i]) (T.set i k) else entP sets k c r N T
theorem nodup_len : ∀ (n : Nat) (l : List Nat), l.Nodup → (∀ i ∈ l, i < n) → l.length ≤ n
  | 0, l, _, h => by
    match l, h with
    | [], _ => simp
    | a :: r, h => exact absurd (h a (by simp)) (by omega)
  | n + 1, l, hd, h => by
    by_cases hm : n ∈ l
    · have h1 := nodup_len n (l.erase n) (hd.erase n) (fun i hi => by
        have h2 := h i (List.mem_of_mem_erase hi)
        have h3 : i ≠ n := fun e => by rw [e] at hi; exact (List.Nodup.not_mem_erase hd) hi
        omega)
      rw [List.length_erase_of_mem hm] at h1
      omega
    · have := nodup_len n l hd (fun i hi => by
        have h2 := h i hi
        have h3 : i ≠ n := fun e => hm (by rw [← e]; exact hi)
        omega)
      omega
/-- The places now are those that took the last byte, each once. -/
def Now (k : Nat) (N T : List Nat) : Prop := N.Nodup ∧ ∀ i ∈ N, T[i]? = some k
theorem Now.len {k : Nat} {N T : List Nat} (h : Now k N T) : N.length ≤ T.length :=
  nodup_len _ _ h.1 fun i hi => (List.getElem?_eq_some_iff.1 (h.2 i hi)).1
theorem Now.push {k i : Nat} {N T : List Nat} (h : Now k N T) (h1 : i < T.length) (h2 : T[i]? ≠ some k) : Now k (N ++ [i]) (T.set i k) := by
  have hni : i ∉ N := fun hi => h2 (h.2 i hi)
  refine ⟨List.nodup_append.2 ⟨h.1, List.nodup_cons.2 ⟨by simp, List.nodup_nil⟩, fun a ha b hb => by
    rw [List.mem_singleton.1 hb]; exact fun e => hni (by rw [← e]; exact ha)⟩, fun x hx => ?_⟩
  rcases List.mem_append.1 hx with hx | hx
  · have : i ≠ x := fun e => hni (by rw [e]; exact hx)
    rw [List.getElem?_set_ne this]
    exact h.2 x hx
  · rw [List.mem_singleton.1 hx, List.getElem?_set_self h1]
def EntSaid (b base : Nat) (p0 p2 p3 p4 : Value) (p : Pt) (st : Ps) (k : Nat) (vs vt : Value) (M : List Nat) (R : List Nat × List Nat) (w : World) (e : Ending) (w' : World) : Prop :=
  e = .returned (.tuple #[]) ∧ ∃ vn, TkS b base w' p0 p2 p3 p4 p st k vn vs vt R.1 M R.2 ∧ Now k R.1 R.2 ∧ Below base w w'
theorem has4 (x : BitVec 256) (c : Nat) (hc : c ≤ 255) (w : World) : Calls Try.prog 55 #[.agg #[.int .u64 (wdN x 0), .int .u64 (wdN x 1), .int .u64 (wdN x 2), .int .u64 (wdN x 3)], .int .u8 c] w fun e w' => e = .returned (.bool (x.getLsbD c)) ∧ Kept w w' := Has_any x c hc w
theorem below_kept {base : Nat} {a b c : World} (h : Below base a b) (hk : Kept b c) (hb : base ≤ b.heap.size) : Below base a c :=
  ⟨hk.os.trans h.os, hk.tape.trans h.tape, hk.output.trans h.output, Nat.le_trans h.size hk.size, fun k hk' => (hk.block k (Nat.lt_of_lt_of_le hk' hb)).trans (h.block k hk')⟩
theorem below_grown {base : Nat} {a b c : World} {row : Option Nat} (h : Below base a b) (hg : b.grownBy c row) (hr : ∀ q, row = some q → base ≤ q) (hb : base ≤ b.heap.size := by omega) : Below base a c :=
  ⟨hg.os.trans h.os, hg.tape.trans h.tape, hg.output.trans h.output, Nat.le_trans h.size hg.size, fun k hk' => (hg.block k (Nat.lt_of_lt_of_le hk' hb) (fun e => by have := hr k e.symm; omega)).trans (h.block k hk')⟩
set_option maxRecDepth 100000 in
set_option maxHeartbeats 8000000 in
theorem enter_go (b base : Nat) (p0 p2 p3 p4 : Value) (p : Pt) (st : Ps) (k : Nat) (vn0 vs vt : Value) (N0 M T0 : List Nat) (A : Option Addr) (ca : Nat) (l : List Nat) (c : Nat) (hc : c ≤ 255) (w : World) (h : TkS b base w p0 p2 p3 p4 p st k vn0 vs vt N0 M T0) (hn : Now k N0 T0) (hS : st.sets.length ≤ 150) (hl : Ls (· < base) w (.slice A l.length ca) (ints l)) (R : List Nat × List Nat) (HR : Hid (entP st.sets k c l N0 T0 = R)) : Calls Try.prog 46 #[ptr b, .slice A l.length ca, .int .u8 c] w (EntSaid b base p0 p2 p3 p4 p st k vs vt M R w) := by
  have HL := Lib.hid hl
  obtain ⟨AT, cT, rfl⟩ := h.taken.form
  obtain ⟨vS, vf, vL, vF, hagg, hls, -⟩ := h.pos
  simp only [Value.agg.injEq, Array.mk.injEq, List.cons.injEq, and_true, true_and] at hagg
  obtain ⟨rfl, rfl, rfl, rfl⟩ := hagg
  have HSL := Lib.hid hls
  obtain ⟨AS, cS, rfl, hs1, hs2, -⟩ := hls
  rw [ints_len, h.len] at h ⊢
  obtain ⟨n, hnn⟩ : ∃ n, st.sets.length = n := ⟨_, rfl⟩
  rw [hnn] at h hS HSL ⊢
  have HNN := Lib.hid hnn
  have H := Lib.hid h
  have HN := Lib.hid hn
  have hll : l.length ≤ 9223372036854775807 := by
    obtain ⟨A', cap', e, h1, h2, -⟩ := hl
    rw [ints_len] at h1
    unfold maxLen at h2
    omega
  clear h hl hn hnn hs1 hs2
  unfold ptr
  go_enter Try.func46, Try.ntmps46
  go_wp2_with fail
  go_loopw [10] (fun vi wr => ∃ (j : Nat) (N T : List Nat) (vn : Value), vi = .int .i64 j ∧ j ≤ l.length ∧ entP st.sets k c (l.drop j) N T = R ∧ TkS b base wr (.slice AS n cS) p2 p3 p4 p st k vn vs (.slice AT n cT) N M T ∧ Now k N T ∧ Below base w wr) (fun vi _ => l.length - (intOf vi).toNat)
  case atStart => exact ⟨0, N0, T0, vn0, rfl, Nat.zero_le _, HR.out, H.out, HN.out, Below.refl _ _⟩
  case round =>
    clear HR H HN
    obtain ⟨j, N, T, vn, rfl, hj, hr, hts, hnow, hbel⟩ := hrel
    have H := Lib.hid hts
    have HR := Lib.hid hr
    have HN := Lib.hid hnow
    have HB := Lib.hid hbel
    clear hts hr hnow hbel
    have hj0 : (0 : Int) ≤ j := by omega
    by_cases hlt : j < l.length
    · have hlti : (j : Int) < l.length := by omega
      have hjb : (j : Int) + 1 ≤ 9223372036854775807 := by omega
      obtain ⟨i, hi⟩ : ∃ i, l[j]? = some i := ⟨_, List.getElem?_eq_getElem hlt⟩
      obtain ⟨q, o, rfl, hqb, hci⟩ := HL.out.at (ints_get hi)
      have HCI := HB.out.cell (p := ⟨q, o + j, none⟩) hqb |>.trans hci
      have hd := drop_at hi
      have hun := HR.out
      rw [hd, entP] at hun
      have HUN := Lib.hid hun
      have hi0 : (0 : Int) ≤ i := by omega
      clear hci hd hun HR hi
      have hTl : T.length = n := by rw [H.out.len, HNN.out]
      go_wp2_with fail
      clear HCI
      refine (isPlace_any b i AT n cT k (.slice AS n cS) p2 p3 p4 vn vs p.null wr H.out.obj).mono ?_
      rintro e w5 ⟨rfl, rfl⟩
      by_cases hin : i < n
      case neg =>
        have HRN : Hid (entP st.sets k c (l.drop (j + 1)) N T = R) := Lib.hid (by rw [← HUN.out, if_neg (fun h => h.1 (List.getElem?_eq_none (by omega)))])
        rw [decide_eq_false hin]
        clear HUN
        go_wp2_with fail
        go_roundw
        case rel => exact ⟨j + 1, N, T, vn, by go_num, by omega, HRN.out, H.out, HN.out, HB.out⟩
        case measure => simp [intOf]; omega
      rw [decide_eq_true hin]
      go_wp2_with fail
      refine (isAt_any b i _ AT n cT k T (.slice AS n cS) p2 p3 p4 vn vs p.null wr H.out.obj H.out.taken.ls).mono ?_
      rintro e w5 ⟨rfl, hk5⟩
      replace HB := Lib.hid (below_kept HB.out hk5 (Nat.le_trans H.out.bb (Nat.le_of_lt (blk_lt H.out.obj))))
      replace H := Lib.hid (H.out.kept hk5)
      clear hk5
      by_cases hat : T[i]? = some k
      · have HRN : Hid (entP st.sets k c (l.drop (j + 1)) N T = R) := Lib.hid (by rw [← HUN.out, if_neg (fun h => h.2.1 hat)])
        rw [decide_eq_true hat]
        clear HUN
        go_wp2_with fail
        go_roundw
        case rel => exact ⟨j + 1, N, T, vn, by go_num, by omega, HRN.out, H.out, HN.out, HB.out⟩
        case measure => simp [intOf]; omega
      rw [decide_eq_false hat]
      have hsz : i < st.sets.length := by rw [HNN.out]; exact hin
      obtain ⟨s, hs⟩ : ∃ s, st.sets[i]? = some s := ⟨_, List.getElem?_eq_getElem hsz⟩
      have hpos := H.out.pos
      obtain ⟨vS, vf, vL, vF, hagg, hls, -⟩ := hpos
      simp only [Value.agg.injEq, Array.mk.injEq, List.cons.injEq, and_true, true_and] at hagg
      obtain ⟨rfl, -⟩ := hagg
      obtain ⟨AS', cS', eS, -, -, hsc⟩ := hls
      injection eS with e1 e2 e3
      obtain ⟨kS, oS, eA, -, C0, C1, C2, C3⟩ := hsc i s hs
      rw [eA] at e1
      subst e1
      have HSI : Hid (st.sets.getD i 0#256 = s) := Lib.hid (by rw [List.getD_eq_getElem?_getD, hs]; rfl)
      have hini : (i : Int) < n := by omega
      obtain ⟨⟨m0, m1, m2, m3, m4, m5, m6, m7, m8⟩, -⟩ := WO.lay H.out.obj
      clear hs hsc e2 e3 hsz eA
      go_wp2_with fail
      clear m0 m1 m2 m3 m4 m5 m6 m7 m8 C0 C1 C2 C3
      refine (has4 s c hc _).mono ?_
      rintro e w6 ⟨rfl, hk6⟩
      replace HB := Lib.hid (below_kept HB.out hk6 (Nat.le_trans H.out.bb (Nat.le_of_lt (blk_lt H.out.obj))))
      replace H := Lib.hid (H.out.kept hk6)
      clear hk6
      cases hbit : s.getLsbD c with
      | false =>
        have HRN : Hid (entP st.sets k c (l.drop (j + 1)) N T = R) := Lib.hid (by rw [← HUN.out, if_neg (fun h => by rw [HSI.out, hbit] at h; cases h.2.2)])
        clear HUN hbit
        go_wp2_with fail
        go_roundw
        case rel => exact ⟨j + 1, N, T, vn, by go_num, by omega, HRN.out, H.out, HN.out, HB.out⟩
        case measure => simp [intOf]; omega
      | true =>
        have HRN : Hid (entP st.sets k c (l.drop (j + 1)) (N ++ [i]) (T.set i k) = R) := Lib.hid (by rw [← HUN.out, if_pos ⟨fun h => by rw [List.getElem?_eq_none_iff] at h; omega, hat, by rw [HSI.out, hbit]⟩])
        have HNP := Lib.hid (HN.out.push (i := i) (by omega) hat)
        obtain ⟨t0, hT⟩ : ∃ t0, T[i]? = some t0 := ⟨_, List.getElem?_eq_getElem (by omega)⟩
        obtain ⟨bt, cap', eT, hbt, hbtl⟩ := H.out.taken.blkOf (ints_get hT)
        injection eT with e1 e2 e3
        subst e1
        have hct := H.out.taken.at.2.2 i _ (ints_get hT)
        have HNL : Hid ((ints N).length ≤ 100000) := Lib.hid (by have := HN.out.len; rw [ints_len]; omega)
        clear HUN hbit hT e2 e3 HN hat hTl
        obtain ⟨⟨m0, m1, m2, m3, m4, m5, m6, m7, m8⟩, -⟩ := WO.lay H.out.obj
        go_wp2_with fail
        refine wp_region_fin' (by simp only [List.dropLast_cons_cons, List.dropLast_singleton]; exact rfl) (by simp only [List.getLast?_cons_cons, List.getLast?_singleton]; exact rfl) Kept pre_kept [([(0, none)], none), ([(35, some 0)], none), ([(36, some 1)], none), ([(37, some 2)], none), ([(7, none)], none), ([(0, none)], none), ([(40, some 5)], none), ([(41, some 6)], none), ([(42, some 7)], none), ([(38, some 3), (39, some 4)], none), ([(44, some 9), (43, some 8)], none)] (by kernel_rfl) 56 rfl (by kernel_rfl) (by kernel_rfl) rfl ?_
        apply go_val pre_kept
        · rintro ρ wr ⟨hg, hn, hc, hf, hgl⟩
          simp only [Need, fat, List.nil_append, List.cons_append, List.getD_cons_zero, List.getD_cons_succ, Fct.hold, and_true] at hn
          refine ⟨by simp [wantP, hn], ?_⟩
          simp [execOp, hn, hc, go_sem]
          exact rfl
        apply go_val pre_kept
        · rintro ρ wr ⟨hg, hn, hc, hf, hgl⟩
          simp only [Need, fat, List.nil_append, List.cons_append, List.getD_cons_zero, List.getD_cons_succ, Fct.hold, and_true] at hn
          refine ⟨by simp [wantP, hn], ?_⟩
          simp [execOp, hn, hc, go_sem]
          exact rfl
        apply go_val pre_kept
        · rintro ρ wr ⟨hg, hn, hc, hf, hgl⟩
          simp only [Need, fat, List.nil_append, List.cons_append, List.getD_cons_zero, List.getD_cons_succ, Fct.hold, and_true] at hn
          refine ⟨by simp [wantP, hn], ?_⟩
          simp [execOp, hn, hc, go_sem]
          exact rfl
        apply go_val (x := .slice (some ⟨bt, 0, none⟩) n cT) pre_kept
        · rintro ρ wr ⟨hg, hn, hc, hf, hgl⟩
          simp only [Need, fat, List.nil_append, List.cons_append, List.getD_cons_zero, List.getD_cons_succ, Fct.hold, and_true] at hn
          refine ⟨by simp [wantP, hn], ?_⟩
          simp [execOp, hn, hc, go_sem, hg.cell m8]
        apply go_val pre_kept
        · rintro ρ wr ⟨hg, hn, hc, hf, hgl⟩
          simp only [Need, fat, List.nil_append, List.cons_append, List.getD_cons_zero, List.getD_cons_succ, Fct.hold, and_true] at hn
          refine ⟨by simp [wantP, hn], ?_⟩
          simp [execOp, hn, hc, go_sem]
          exact rfl
        apply go_val pre_kept
        · rintro ρ wr ⟨hg, hn, hc, hf, hgl⟩
          simp only [Need, fat, List.nil_append, List.cons_append, List.getD_cons_zero, List.getD_cons_succ, Fct.hold, and_true] at hn
          refine ⟨by simp [wantP, hn], ?_⟩
          simp [execOp, hn, hc, go_sem]
          exact rfl
        apply go_val pre_kept
        · rintro ρ wr ⟨hg, hn, hc, hf, hgl⟩
          simp only [Need, fat, List.nil_append, List.cons_append, List.getD_cons_zero, List.getD_cons_succ, Fct.hold, and_true] at hn
          refine ⟨by simp [wantP, hn], ?_⟩
          simp [execOp, hn, hc, go_sem]
          exact rfl
        apply go_val pre_kept
        · rintro ρ wr ⟨hg, hn, hc, hf, hgl⟩
          simp only [Need, fat, List.nil_append, List.cons_append, List.getD_cons_zero, List.getD_cons_succ, Fct.hold, and_true] at hn
          refine ⟨by simp [wantP, hn], ?_⟩
          simp [execOp, hn, hc, go_sem]
          exact rfl
        apply go_val (x := .int .i64 (k : Int)) pre_kept
        · rintro ρ wr ⟨hg, hn, hc, hf, hgl⟩
          simp only [Need, fat, List.nil_append, List.cons_append, List.getD_cons_zero, List.getD_cons_succ, Fct.hold, and_true] at hn
          refine ⟨by simp [wantP, hn], ?_⟩
          simp [execOp, hn, hc, go_sem, hg.cell m5]
        apply go_val (x := .pointer (some ⟨bt, i, none⟩)) pre_kept
        · rintro ρ wr ⟨hg, hn, hc, hf, hgl⟩
          simp only [Need, fat, List.nil_append, List.cons_append, List.getD_cons_zero, List.getD_cons_succ, Fct.hold, and_true] at hn
          refine ⟨by simp [wantP, hn], ?_⟩
          simp [execOp, hn, hc, go_sem, hini, hin, hi0]
        intro w2 hk2
        simp only [Post, List.nil_append, List.cons_append, Act.put, List.setIfInBounds_toArray, List.set_cons_zero, List.set_cons_succ]
        have hk4 := (Kept.drew (Kept.refl _)).trans hk2
        replace HB := Lib.hid (below_kept HB.out hk4 (Nat.le_trans H.out.bb (Nat.le_of_lt (blk_lt H.out.obj))))
        replace H := Lib.hid (H.out.kept hk4)
        replace hct := hk4.cell hct
        have hfz := H.out.taken.at.2.1 i
        have HM := Lib.hid (H.out.mark (i := i) k)
        have HBM := Lib.hid (HB.out.setCell (p := ⟨bt, i, none⟩) hbt (.int .i64 (k : Nat)))
        clear hk2 hk4 m0 m1 m2 m3 m4 m5 m6 m7 m8 H HB
        rename_i hK
        unfold Oper.wp execOp
        go_simp
        refine hK _ _ ?_
        clear hK hct hfz
        generalize w2.setCell _ _ = w7 at HM HBM ⊢
        obtain ⟨⟨m0, m1, m2, m3, m4, m5, m6, m7, m8⟩, -⟩ := WO.lay HM.out.obj
        obtain ⟨An, cn, rfl⟩ := HM.out.now.form
        have hkN : Kept w7 (w7.alloc (.cells #[.int .i64 (i : Nat)] 3)) := (Kept.refl _).alloc _
        have HM1 := Lib.hid (HM.out.kept hkN)
        have hbs : base ≤ w7.heap.size := Nat.le_trans HM.out.bb (Nat.le_of_lt (blk_lt HM.out.obj))
        have HB1 := Lib.hid (below_kept HBM.out hkN hbs)
        have HBS : Hid (base ≤ (w7.alloc (.cells #[.int .i64 (i : Nat)] 3)).heap.size) := Lib.hid (by simp; omega)
        have HCN : Hid ((w7.alloc (.cells #[.int .i64 (i : Nat)] 3)).cell? ⟨w7.heap.size, 0, none⟩ = some (.int .i64 (i : Nat))) := Lib.hid (by rw [blk_cell (blk_new w7 _)]; rfl)
        obtain ⟨n1, hn1⟩ : ∃ n1, (ints N).length = n1 := ⟨_, rfl⟩
        obtain ⟨n2, hn2⟩ : ∃ n2, (ints N ++ [Value.int .i64 (i : Nat)]).length = n2 := ⟨_, rfl⟩
        rw [hn1] at HM1 m6
        have HL2 := Lib.hid hn2
        clear hkN HM HBM hn1 hn2
        go_wp2_with (at_builtin; refine wpList_push1 rfl _ _ 30 3 (.inl ⟨rfl, rfl⟩) rfl rfl HM1.out.now (.int .i64 (i : Nat)) rfl w7.heap.size rfl HCN.out HNL.out HBS.out ?_; intro v8 w8 hraw hgr hown; obtain ⟨A8, cap8, e8⟩ := hraw.form; rw [HL2.out] at e8; subst e8; have hb8 := (hgr.block b (blk_lt HM1.out.obj) (fun e => HM1.out.b1 e.symm)).trans HM1.out.obj; have hz8 : w8.frozen? ⟨b, 6, none⟩ = false := blk_free hb8 _; have hc8 : w8.cell? ⟨b, 6, none⟩ = some (.slice An n1 cn) := (by rw [blk_cell hb8]; rfl); have HP := Lib.hid (HM1.out.push hgr hraw hown); have HBP := Lib.hid ((below_grown HB1.out hgr (fun q hq => (HM1.out.now.own q hq).1) HBS.out).setCell (p := ⟨b, 6, none⟩) HM1.out.bb (.slice A8 n2 cap8)); clear hraw hgr hown hb8)
        go_roundw
        case rel => exact ⟨j + 1, N ++ [i], T.set i k, _, by go_num, by omega, HRN.out, HP.out, HNP.out, HBP.out⟩
        case measure => simp [intOf]; omega
    · have hge : ¬ (j : Int) < l.length := by omega
      have hE : (N, T) = R := by rw [← HR.out, List.drop_eq_nil_of_le (by omega), entP]
      have HE := Lib.hid hE
      clear hE HR
      go_wp2_with fail
      go_end0
      rw [← HE.out]
      exact ⟨rfl, vn, H.out, HN.out, HB.out⟩
end Go.Proofs.Ytdbffbdpofodmaa
