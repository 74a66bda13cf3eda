/-
  What the document's walk over a pattern makes: nothing, rows, choices and repeats. Conditions: there are at most 150 places.
-/
import Derived.Test.YtdbffbdpofodmaaWs
set_option linter.unusedSimpArgs false
namespace Go.Proofs.Ytdbffbdpofodmaa
open Go Go.RowKit Kit
set_option maxRecDepth 100000 in
set_option maxHeartbeats 4000000 in
theorem rwalk_lo (g : Nat) (w : World) (op : Int) (x : BitVec 256) (kids : List Rx) (A : Option Addr) (cap : Nat) (vS vF : Value) (fs : List Value) (st : Ps) (_hx : RxAt (· < g) w (rx6 op x (.slice A kids.length cap)) (.mk op x kids)) (_hkl : kids.length ≤ 9223372036854775807) (hm : StM g w vS vF fs st) (_hok : Ok st) (h1 : ¬ op = 1) (hr : op < 2) : Calls Try.prog 24 #[ptr g, rx6 op x (.slice A kids.length cap)] w (WkSaid g (own2 vS vF) (nullP, st) w) := by
  have H := Lib.hid (((Ws.start hm).alloc (.cells #[.int .i64 op, .int .u64 (wdN x 0), .int .u64 (wdN x 1), .int .u64 (wdN x 2), .int .u64 (wdN x 3), .slice A kids.length cap] 26)).alloc (.cells #[.bool true, .slice none 0 0, .slice none 0 0] 73))
  have hgl := blk_lt hm.obj
  clear hm
  unfold ptr rx6
  have f2 : ¬ op = 2 := by omega
  have f3 : ¬ op = 3 := by omega
  have f4 : ¬ op = 4 := by omega
  have f5 : ¬ op = 5 := by omega
  have f6 : ¬ op = 6 := by omega
  go_enter Try.func24, Try.ntmps24
  go_wp2_with fail
  refine bodyPost_ret (v := .agg #[.bool true, .slice none 0 0, .slice none 0 0]) ?_ rfl ⟨_, _, vS, vF, fs, rfl, Ls.nil _ _, Ls.nil _ _, H.out.m, H.out.v⟩
  simp [results, Try.results24, go_sem]
set_option maxRecDepth 100000 in
set_option maxHeartbeats 4000000 in
theorem rwalk_hi (g : Nat) (w : World) (op : Int) (x : BitVec 256) (kids : List Rx) (A : Option Addr) (cap : Nat) (vS vF : Value) (fs : List Value) (st : Ps) (_hx : RxAt (· < g) w (rx6 op x (.slice A kids.length cap)) (.mk op x kids)) (_hkl : kids.length ≤ 9223372036854775807) (hm : StM g w vS vF fs st) (_hok : Ok st) (hr : 6 < op) : Calls Try.prog 24 #[ptr g, rx6 op x (.slice A kids.length cap)] w (WkSaid g (own2 vS vF) (nullP, st) w) := by
  have H := Lib.hid (((Ws.start hm).alloc (.cells #[.int .i64 op, .int .u64 (wdN x 0), .int .u64 (wdN x 1), .int .u64 (wdN x 2), .int .u64 (wdN x 3), .slice A kids.length cap] 26)).alloc (.cells #[.bool true, .slice none 0 0, .slice none 0 0] 73))
  have hgl := blk_lt hm.obj
  clear hm
  unfold ptr rx6
  have f1 : ¬ op = 1 := by omega
  have f2 : ¬ op = 2 := by omega
  have f3 : ¬ op = 3 := by omega
  have f4 : ¬ op = 4 := by omega
  have f5 : ¬ op = 5 := by omega
  have f6 : ¬ op = 6 := by omega
  go_enter Try.func24, Try.ntmps24
  go_wp2_with fail
  refine bodyPost_ret (v := .agg #[.bool true, .slice none 0 0, .slice none 0 0]) ?_ rfl ⟨_, _, vS, vF, fs, rfl, Ls.nil _ _, Ls.nil _ _, H.out.m, H.out.v⟩
  simp [results, Try.results24, go_sem]
set_option maxRecDepth 100000 in
set_option maxHeartbeats 4000000 in
theorem rwalk_none2 (g : Nat) (w : World) (op : Int) (x : BitVec 256) (kids : List Rx) (A : Option Addr) (cap : Nat) (vS vF : Value) (fs : List Value) (st : Ps) (hx : RxAt (· < g) w (rx6 op x (.slice A kids.length cap)) (.mk op x kids)) (_hkl : kids.length ≤ 9223372036854775807) (hm : StM g w vS vF fs st) (_hok : Ok st) (ho : op = 2) (hk : kids.length = 0) : Calls Try.prog 24 #[ptr g, rx6 op x (.slice A kids.length cap)] w (WkSaid g (own2 vS vF) (nullP, st) w) := by
  have H := Lib.hid (((Ws.start hm).alloc (.cells #[.int .i64 op, .int .u64 (wdN x 0), .int .u64 (wdN x 1), .int .u64 (wdN x 2), .int .u64 (wdN x 3), .slice A kids.length cap] 26)).alloc (.cells #[.bool true, .slice none 0 0, .slice none 0 0] 73))
  have hgl := blk_lt hm.obj
  rw [hk] at H ⊢
  subst ho
  clear hm
  unfold ptr rx6
  go_enter Try.func24, Try.ntmps24
  go_wp2_with fail
  refine bodyPost_ret (v := .agg #[.bool true, .slice none 0 0, .slice none 0 0]) ?_ rfl ⟨_, _, vS, vF, fs, rfl, Ls.nil _ _, Ls.nil _ _, H.out.m, H.out.v⟩
  simp [results, Try.results24, go_sem]
set_option maxRecDepth 100000 in
set_option maxHeartbeats 4000000 in
theorem rwalk_none3 (g : Nat) (w : World) (op : Int) (x : BitVec 256) (kids : List Rx) (A : Option Addr) (cap : Nat) (vS vF : Value) (fs : List Value) (st : Ps) (hx : RxAt (· < g) w (rx6 op x (.slice A kids.length cap)) (.mk op x kids)) (_hkl : kids.length ≤ 9223372036854775807) (hm : StM g w vS vF fs st) (_hok : Ok st) (ho : op = 3) (hk : kids.length = 0) : Calls Try.prog 24 #[ptr g, rx6 op x (.slice A kids.length cap)] w (WkSaid g (own2 vS vF) (nullP, st) w) := by
  have H := Lib.hid (((Ws.start hm).alloc (.cells #[.int .i64 op, .int .u64 (wdN x 0), .int .u64 (wdN x 1), .int .u64 (wdN x 2), .int .u64 (wdN x 3), .slice A kids.length cap] 26)).alloc (.cells #[.bool true, .slice none 0 0, .slice none 0 0] 73))
  have hgl := blk_lt hm.obj
  rw [hk] at H ⊢
  subst ho
  clear hm
  unfold ptr rx6
  go_enter Try.func24, Try.ntmps24
  go_wp2_with fail
  refine bodyPost_ret (v := .agg #[.bool true, .slice none 0 0, .slice none 0 0]) ?_ rfl ⟨_, _, vS, vF, fs, rfl, Ls.nil _ _, Ls.nil _ _, H.out.m, H.out.v⟩
  simp [results, Try.results24, go_sem]
set_option maxRecDepth 100000 in
set_option maxHeartbeats 4000000 in
theorem rwalk_none4 (g : Nat) (w : World) (op : Int) (x : BitVec 256) (kids : List Rx) (A : Option Addr) (cap : Nat) (vS vF : Value) (fs : List Value) (st : Ps) (hx : RxAt (· < g) w (rx6 op x (.slice A kids.length cap)) (.mk op x kids)) (_hkl : kids.length ≤ 9223372036854775807) (hm : StM g w vS vF fs st) (_hok : Ok st) (ho : op = 4) (hk : kids.length = 0) : Calls Try.prog 24 #[ptr g, rx6 op x (.slice A kids.length cap)] w (WkSaid g (own2 vS vF) (nullP, st) w) := by
  have H := Lib.hid (((Ws.start hm).alloc (.cells #[.int .i64 op, .int .u64 (wdN x 0), .int .u64 (wdN x 1), .int .u64 (wdN x 2), .int .u64 (wdN x 3), .slice A kids.length cap] 26)).alloc (.cells #[.bool true, .slice none 0 0, .slice none 0 0] 73))
  have hgl := blk_lt hm.obj
  rw [hk] at H ⊢
  subst ho
  clear hm
  unfold ptr rx6
  go_enter Try.func24, Try.ntmps24
  go_wp2_with fail
  refine bodyPost_ret (v := .agg #[.bool true, .slice none 0 0, .slice none 0 0]) ?_ rfl ⟨_, _, vS, vF, fs, rfl, Ls.nil _ _, Ls.nil _ _, H.out.m, H.out.v⟩
  simp [results, Try.results24, go_sem]
set_option maxRecDepth 100000 in
set_option maxHeartbeats 4000000 in
theorem rwalk_none5 (g : Nat) (w : World) (op : Int) (x : BitVec 256) (kids : List Rx) (A : Option Addr) (cap : Nat) (vS vF : Value) (fs : List Value) (st : Ps) (hx : RxAt (· < g) w (rx6 op x (.slice A kids.length cap)) (.mk op x kids)) (_hkl : kids.length ≤ 9223372036854775807) (hm : StM g w vS vF fs st) (_hok : Ok st) (ho : op = 5) (hk : kids.length = 0) : Calls Try.prog 24 #[ptr g, rx6 op x (.slice A kids.length cap)] w (WkSaid g (own2 vS vF) (nullP, st) w) := by
  have H := Lib.hid (((Ws.start hm).alloc (.cells #[.int .i64 op, .int .u64 (wdN x 0), .int .u64 (wdN x 1), .int .u64 (wdN x 2), .int .u64 (wdN x 3), .slice A kids.length cap] 26)).alloc (.cells #[.bool true, .slice none 0 0, .slice none 0 0] 73))
  have hgl := blk_lt hm.obj
  rw [hk] at H ⊢
  subst ho
  clear hm
  unfold ptr rx6
  go_enter Try.func24, Try.ntmps24
  go_wp2_with fail
  refine bodyPost_ret (v := .agg #[.bool true, .slice none 0 0, .slice none 0 0]) ?_ rfl ⟨_, _, vS, vF, fs, rfl, Ls.nil _ _, Ls.nil _ _, H.out.m, H.out.v⟩
  simp [results, Try.results24, go_sem]
set_option maxRecDepth 100000 in
set_option maxHeartbeats 4000000 in
theorem rwalk_none6 (g : Nat) (w : World) (op : Int) (x : BitVec 256) (kids : List Rx) (A : Option Addr) (cap : Nat) (vS vF : Value) (fs : List Value) (st : Ps) (hx : RxAt (· < g) w (rx6 op x (.slice A kids.length cap)) (.mk op x kids)) (_hkl : kids.length ≤ 9223372036854775807) (hm : StM g w vS vF fs st) (_hok : Ok st) (ho : op = 6) (hk : kids.length = 0) : Calls Try.prog 24 #[ptr g, rx6 op x (.slice A kids.length cap)] w (WkSaid g (own2 vS vF) (nullP, st) w) := by
  have H := Lib.hid (((Ws.start hm).alloc (.cells #[.int .i64 op, .int .u64 (wdN x 0), .int .u64 (wdN x 1), .int .u64 (wdN x 2), .int .u64 (wdN x 3), .slice A kids.length cap] 26)).alloc (.cells #[.bool true, .slice none 0 0, .slice none 0 0] 73))
  have hgl := blk_lt hm.obj
  rw [hk] at H ⊢
  subst ho
  clear hm
  unfold ptr rx6
  go_enter Try.func24, Try.ntmps24
  go_wp2_with fail
  refine bodyPost_ret (v := .agg #[.bool true, .slice none 0 0, .slice none 0 0]) ?_ rfl ⟨_, _, vS, vF, fs, rfl, Ls.nil _ _, Ls.nil _ _, H.out.m, H.out.v⟩
  simp [results, Try.results24, go_sem]
theorem drop_at' {α : Type} {l : List α} {i : Nat} {x : α} (h : l[i]? = some x) : l.drop i = x :: l.drop (i + 1) := by
  obtain ⟨hlt, rfl⟩ := List.getElem?_eq_some_iff.1 h
  exact List.drop_eq_getElem_cons hlt
theorem RxAt.side {g k i : Nat} {w : World} {u v : Value} {x : Rx} (h : RxAt (· < g) w u x) (hk : g < k) : RxAt (· < g) (w.setCell ⟨k, i, none⟩ v) u x :=
  h.keep fun q _ hs => by
    have : ¬ k = q := by omega
    exact ⟨hs, by simp [World.setCell, Array.getElem?_modify, this]⟩
def LpRel (g : Nat) (O : Nat → Prop) (w : World) (op : Int) (x : BitVec 256) (kids : List Rx) (A : Option Addr) (cap a r B : Nat) (bu : Obj) (F : List Rx → Pt → Ps → Pt × Ps) (R : Pt × Ps) (vi : Value) (wr : World) : Prop :=
  ∃ (i : Nat) (pn : Bool) (pf pl : List Nat) (st1 : Ps) (A1 : Option Addr) (c1 : Nat) (A2 : Option Addr) (c2 : Nat) (vS1 vF1 : Value) (fs1 : List Value),
    vi = .int .i64 i ∧ i ≤ kids.length ∧ F (kids.drop i) ⟨pn, pf, pl⟩ st1 = R ∧ RxAt (· < g) wr (rx6 op x (.slice A kids.length cap)) (.mk op x kids) ∧ Ok st1 ∧ OkP st1.sets.length ⟨pn, pf, pl⟩ ∧ st1.sets.length + cntL (kids.drop i) ≤ 150 ∧
    Ls (fun k => g < k ∧ ¬ own2 vS1 vF1 k) wr (.slice A1 pf.length c1) (ints pf) ∧ Ls (fun k => g < k ∧ ¬ own2 vS1 vF1 k) wr (.slice A2 pl.length c2) (ints pl) ∧ Ws g O w [(a, PB pn A1 pf.length c1 A2 pl.length c2), (r, PB false none 0 0 none 0 0), (B, bu)] wr vS1 vF1 fs1 st1
set_option maxRecDepth 100000 in
set_option maxHeartbeats 16000000 in
theorem rwalk_cat (g : Nat) (w : World) (op : Int) (x : BitVec 256) (kids : List Rx) (A : Option Addr) (cap : Nat) (vS vF : Value) (fs : List Value) (st : Ps) (hx : RxAt (· < g) w (rx6 op x (.slice A kids.length cap)) (.mk op x kids)) (hkl : kids.length ≤ 9223372036854775807) (hm : StM g w vS vF fs st) (hok : Ok st) (IH : ∀ y ∈ kids, WkAny g y) (ho : op = 2) (hk : ¬ kids.length = 0) (hS : st.sets.length + cntL kids ≤ 150) (R : Pt × Ps) (HR : Hid (wkCat kids ⟨true, [], []⟩ st = R)) : Calls Try.prog 24 #[ptr g, rx6 op x (.slice A kids.length cap)] w (WkSaid g (own2 vS vF) R w) := by
  have H := Lib.hid ((((Ws.start hm).alloc (.cells #[.int .i64 op, .int .u64 (wdN x 0), .int .u64 (wdN x 1), .int .u64 (wdN x 2), .int .u64 (wdN x 3), .slice A kids.length cap] 26)).alloc (.cells #[.bool false, .slice none 0 0, .slice none 0 0] 73)).alloc (.cells #[.bool true, .slice none 0 0, .slice none 0 0] 73))
  have hK0 : Kept w (((w.alloc (.cells #[.int .i64 op, .int .u64 (wdN x 0), .int .u64 (wdN x 1), .int .u64 (wdN x 2), .int .u64 (wdN x 3), .slice A kids.length cap] 26)).alloc (.cells #[.bool false, .slice none 0 0, .slice none 0 0] 73)).alloc (.cells #[.bool true, .slice none 0 0, .slice none 0 0] 73)) := (((Kept.refl _).alloc _).alloc _).alloc _
  have HX := Lib.hid (hx.kept hK0)
  have HOK := Lib.hid hok
  have hgw := blk_lt hm.obj
  have hki : ¬ (kids.length : Int) = 0 := by omega
  have hkb : ((kids.length : Int) == 0) = false := by simpa using hki
  simp only [World.size_alloc] at H
  clear hx hm hok hK0
  subst ho
  unfold ptr at *
  unfold rx6
  go_enter Try.func24, Try.ntmps24
  go_wp2_with fail
  generalize ((w.alloc _).alloc _).alloc _ = W at H HX ⊢
  obtain ⟨B, hB⟩ : ∃ B, w.heap.size = B := ⟨_, rfl⟩
  rw [hB] at H hgw ⊢
  obtain ⟨a, ha⟩ : ∃ a, B + 2 = a := ⟨_, rfl⟩
  obtain ⟨r, hrr⟩ : ∃ r, B + 1 = r := ⟨_, rfl⟩
  rw [ha, hrr] at H ⊢
  go_loopw [7] (LpRel g (own2 vS vF) w 2 x kids A cap a r B (.cells #[.int .i64 2, .int .u64 (wdN x 0), .int .u64 (wdN x 1), .int .u64 (wdN x 2), .int .u64 (wdN x 3), .slice A kids.length cap] 26) wkCat R) (fun vi _ => kids.length - (intOf vi).toNat)
  case atStart => exact ⟨0, true, [], [], st, none, 0, none, 0, vS, vF, fs, rfl, Nat.zero_le _, HR.out, HX.out, HOK.out, ⟨Up.nil _, Up.nil _⟩, hS, Ls.nil _ _, Ls.nil _ _, H.out⟩
  case round =>
    clear H HX HR HOK
    obtain ⟨i, pn, pf, pl, st1, A1, c1, A2, c2, vS1, vF1, fs1, rfl, hi, hr, hx, hok, hop, hsz, hpf, hpl, hws⟩ := hrel
    have H := Lib.hid hws
    have HX := Lib.hid hx
    have HPF := Lib.hid hpf
    have HPL := Lib.hid hpl
    have HP := Lib.hid (And.intro hok (And.intro hop hr))
    have HSZ := Lib.hid hsz
    clear hws hx hpf hpl hok hop hr hsz
    have hga : g < a := by omega
    obtain ⟨⟨a0, a1, a2, a3, a4, a5⟩, -⟩ := box6 (H.out.blk (r := B) (.tail _ (.tail _ (.head _))))
    have hi0 : (0 : Int) ≤ i := by omega
    by_cases hlt : i < kids.length
    · have hlti : (i : Int) < kids.length := by omega
      have hib : (i : Int) + 1 ≤ 9223372036854775807 := by omega
      obtain ⟨y, hy⟩ : ∃ y, kids[i]? = some y := ⟨_, List.getElem?_eq_getElem hlt⟩
      obtain ⟨p, o, rfl, -, e0, e1, e2, e3, e4, e5, C0, C1, C2, C3, C4, C5, hry⟩ := HX.out.kid hy
      have hd := drop_at' hy
      have hsz := HSZ.out
      rw [hd, cntL] at hsz
      have HCALL := Lib.hid (IH y (List.mem_of_getElem? hy) wr _ vS1 vF1 fs1 st1 hry H.out.m HP.out.1 (by omega))
      obtain ⟨⟨⟨qn, qf, ql⟩, st2⟩, hq⟩ : ∃ q, wk y st1 = q := ⟨_, rfl⟩
      have hwk := wk_ok y st1 HP.out.1
      have hun := HP.out.2.2
      rw [hd, wkCat] at hun
      rw [hq] at HCALL hwk hun
      simp only at hun
      obtain ⟨hok2, hs2, hq2⟩ := hwk
      simp only at hok2 hs2 hq2
      have hp2 := HP.out.2.1
      have HUP : Hid (OkP st2.sets.length ⟨pn, pf, pl⟩ ∧ OkP st2.sets.length ⟨qn, qf, ql⟩) := Lib.hid ⟨⟨hp2.1.mono (by omega), hp2.2.mono (by omega)⟩, by rw [hs2]; exact hq2⟩
      have HLEN : Hid (pf.length ≤ 1000 ∧ pl.length ≤ 1000 ∧ qf.length ≤ 1000 ∧ ql.length ≤ 1000) := Lib.hid (by
        have b1 := HUP.out.1.1.len
        have b2 := HUP.out.1.2.len
        have b3 := HUP.out.2.1.len
        have b4 := HUP.out.2.2.len
        simp only at b1 b2 b3 b4
        omega)
      have HOK2 := Lib.hid hok2
      have HOKN : Hid (Ok ⟨st2.sets, linkP st2.fol pl qf⟩) := Lib.hid (hok2.link HUP.out.2.1)
      have HSN : Hid (st2.sets.length + cntL (kids.drop (i + 1)) ≤ 150) := Lib.hid (by omega)
      have HRN0 := Lib.hid hun
      have hst2 : st2.sets.length ≤ 150 := by omega
      clear HP hd hsz hq hun hok2 hs2 hq2 hp2 hry hy HSZ
      go_wp2_with fail
      clear C0 C1 C2 C3 C4 C5 a0 a1 a2 a3 a4 a5
      refine HCALL.out.mono ?_
      rintro e w5 ⟨vqf, vql, vS5, vF5, fs5, rfl, hqf, hql, hm5, hv5⟩
      simp only at hqf hql hm5 ⊢
      obtain ⟨A3, c3, rfl⟩ := hqf.form
      obtain ⟨A4, c4, rfl⟩ := hql.form
      rw [ints_len] at hqf hql
      simp only [ints_len]
      replace HPF := Lib.hid (hv5.ls HPF.out)
      replace HPL := Lib.hid (hv5.ls HPL.out)
      replace HX := Lib.hid (hv5.rx (fun k hk => (H.out.m.gt k hk).1) HX.out)
      replace H := Lib.hid (H.out.step hm5 hv5)
      have HQF := Lib.hid hqf
      have HQL := Lib.hid hql
      clear HCALL hm5 hv5 hqf hql
      obtain ⟨K, hK⟩ : ∃ K, w5.heap.size = K := ⟨_, rfl⟩
      have hab := blk_lt (H.out.blk (r := a) (.head _))
      have hrb := blk_lt (H.out.blk (r := r) (.tail _ (.head _)))
      have hBb := blk_lt (H.out.blk (r := B) (.tail _ (.tail _ (.head _))))
      have haK : a < K := by omega
      have hrK : r < K := by omega
      have hBK : B < K := by omega
      have hkk : Kept w5 (w5.alloc (.cells #[.bool qn, .slice A3 qf.length c3, .slice A4 ql.length c4] 73)) := (Kept.refl _).alloc _
      obtain ⟨⟨p0, p1, p2⟩, q0, q1, q2⟩ := PB.lay (H.out.blk (r := a) (.head _))
      replace H := Lib.hid ((H.out.alloc (.cells #[.bool qn, .slice A3 qf.length c3, .slice A4 ql.length c4] 73)))
      rw [hK] at H
      replace H := Lib.hid (H.out.sub (bs' := [(a, PB pn A1 pf.length c1 A2 pl.length c2), (K, PB qn A3 qf.length c3 A4 ql.length c4), (r, PB false none 0 0 none 0 0), (B, (.cells #[.int .i64 2, .int .u64 (wdN x 0), .int .u64 (wdN x 1), .int .u64 (wdN x 2), .int .u64 (wdN x 3), .slice (some ⟨p, o, none⟩) kids.length cap] 26))]) (fun q hq => by
        simp only [List.mem_cons, List.not_mem_nil, or_false] at hq ⊢
        rcases hq with rfl | rfl | rfl | rfl
        · exact .inr (.inl rfl)
        · exact .inl rfl
        · exact .inr (.inr (.inl rfl))
        · exact .inr (.inr (.inr rfl))))
      replace HX := Lib.hid (HX.out.kept hkk)
      replace HPF := Lib.hid (HPF.out.kept hkk)
      replace HPL := Lib.hid (HPL.out.kept hkk)
      replace HQF := Lib.hid (HQF.out.kept hkk)
      replace HQL := Lib.hid (HQL.out.kept hkk)
      clear hkk hab hrb hBb
      go_wp2_with fail
      generalize w5.alloc _ = w6 at H HX HPF HPL HQF HQL ⊢
      clear p0 p1 p2 q0 q1 q2 hK
      refine (rlink_any g vS5 vF5 fs5 st2 _ _ pl qf w6 H.out.m HOK2.out hst2 HPL.out HQF.out HUP.out.1.2 HUP.out.2.1).mono ?_
      rintro e w7 ⟨rfl, fs7, hm7, hv7⟩
      replace HPF := Lib.hid (hv7.ls HPF.out)
      replace HPL := Lib.hid (hv7.ls HPL.out)
      replace HQF := Lib.hid (hv7.ls HQF.out)
      replace HQL := Lib.hid (hv7.ls HQL.out)
      replace HX := Lib.hid (hv7.rx (fun k hk => (H.out.m.gt k hk).1) HX.out)
      replace H := Lib.hid (H.out.step hm7 hv7)
      clear hm7 hv7
      cases pn with
      | true =>
        cases qn with
        | true =>
          have HRN : Hid (wkCat (kids.drop (i + 1)) ⟨true, uni pf qf, uni pl ql⟩ ⟨st2.sets, linkP st2.fol pl qf⟩ = R) := Lib.hid HRN0.out
          obtain ⟨⟨p0, p1, p2⟩, q0, q1, q2⟩ := PB.lay (H.out.blk (r := a) (.head _))
          obtain ⟨⟨k0, k1, k2⟩, -⟩ := PB.lay (H.out.blk (r := K) (.tail _ (.head _)))
          go_wp2_with fail
          clear p0 p1 p2 q0 q1 q2 k0 k1 k2
          refine (union_any _ _ _ _ pf qf w7 HPF.out HQF.out HLEN.out.1 HLEN.out.2.2.1).mono ?_
          rintro e w8 ⟨v, rfl, hv, hk8⟩
          obtain ⟨A5, c5, rfl⟩ := hv.form
          rw [ints_len] at hv ⊢
          have HNF : Hid (Ls (fun k => g < k ∧ ¬ own2 vS5 vF5 k) w8 (.slice A5 (uni pf qf).length c5) (ints (uni pf qf))) := Lib.hid (by
            exact hv.weak fun k _ hk => ⟨by have := blk_lt H.out.m.obj; omega, fun ho => by have := H.out.m.gt k ho; omega⟩)
          replace H := Lib.hid (H.out.kept hk8)
          replace HX := Lib.hid (HX.out.kept hk8)
          replace HPF := Lib.hid (HPF.out.kept hk8)
          replace HPL := Lib.hid (HPL.out.kept hk8)
          replace HQF := Lib.hid (HQF.out.kept hk8)
          replace HQL := Lib.hid (HQL.out.kept hk8)
          clear hv hk8
          obtain ⟨⟨p0, p1, p2⟩, q0, q1, q2⟩ := PB.lay (H.out.blk (r := a) (.head _))
          obtain ⟨⟨k0, k1, k2⟩, -⟩ := PB.lay (H.out.blk (r := K) (.tail _ (.head _)))
          have hba := H.out.blk (r := a) (.head _)
          replace HPF := Lib.hid (HPF.out.side hba 1 (.slice A5 (uni pf qf).length c5))
          replace HPL := Lib.hid (HPL.out.side hba 1 (.slice A5 (uni pf qf).length c5))
          replace HQF := Lib.hid (HQF.out.side hba 1 (.slice A5 (uni pf qf).length c5))
          replace HQL := Lib.hid (HQL.out.side hba 1 (.slice A5 (uni pf qf).length c5))
          replace HNF := Lib.hid (HNF.out.side hba 1 (.slice A5 (uni pf qf).length c5))
          replace HX := Lib.hid (HX.out.side (k := a) (i := 1) (v := (.slice A5 (uni pf qf).length c5)) hga)
          replace H := Lib.hid (H.out.put1 (A := A5) (n := (uni pf qf).length) (c := c5) (fun q hq => by
            simp only [List.mem_cons, List.not_mem_nil, or_false] at hq
            rcases hq with rfl | rfl | rfl <;> (simp only []; omega)))
          clear hba
          go_wp2_with fail
          clear p0 p1 p2 q0 q1 q2 k0 k1 k2
          generalize w8.setCell _ _ = w9 at H HX HPF HPL HQF HQL HNF ⊢
          refine (union_any _ _ _ _ pl ql w9 HPL.out HQL.out HLEN.out.2.1 HLEN.out.2.2.2).mono ?_
          rintro e w10 ⟨v, rfl, hv, hk8⟩
          obtain ⟨A6, c6, rfl⟩ := hv.form
          rw [ints_len] at hv ⊢
          have HNL : Hid (Ls (fun k => g < k ∧ ¬ own2 vS5 vF5 k) w10 (.slice A6 (uni pl ql).length c6) (ints (uni pl ql))) := Lib.hid (by
            exact hv.weak fun k _ hk => ⟨by have := blk_lt H.out.m.obj; omega, fun ho => by have := H.out.m.gt k ho; omega⟩)
          replace H := Lib.hid (H.out.kept hk8)
          replace HX := Lib.hid (HX.out.kept hk8)
          replace HPF := Lib.hid (HPF.out.kept hk8)
          replace HPL := Lib.hid (HPL.out.kept hk8)
          replace HQF := Lib.hid (HQF.out.kept hk8)
          replace HQL := Lib.hid (HQL.out.kept hk8)
          replace HNF := Lib.hid (HNF.out.kept hk8)
          clear hv hk8
          obtain ⟨⟨p0, p1, p2⟩, q0, q1, q2⟩ := PB.lay (H.out.blk (r := a) (.head _))
          obtain ⟨⟨k0, k1, k2⟩, -⟩ := PB.lay (H.out.blk (r := K) (.tail _ (.head _)))
          have hba := H.out.blk (r := a) (.head _)
          replace HPF := Lib.hid (HPF.out.side hba 2 (.slice A6 (uni pl ql).length c6))
          replace HPL := Lib.hid (HPL.out.side hba 2 (.slice A6 (uni pl ql).length c6))
          replace HQF := Lib.hid (HQF.out.side hba 2 (.slice A6 (uni pl ql).length c6))
          replace HQL := Lib.hid (HQL.out.side hba 2 (.slice A6 (uni pl ql).length c6))
          replace HNF := Lib.hid (HNF.out.side hba 2 (.slice A6 (uni pl ql).length c6))
          replace HNL := Lib.hid (HNL.out.side hba 2 (.slice A6 (uni pl ql).length c6))
          replace HX := Lib.hid (HX.out.side (k := a) (i := 2) (v := (.slice A6 (uni pl ql).length c6)) hga)
          replace H := Lib.hid (H.out.put2 (A := A6) (n := (uni pl ql).length) (c := c6) (fun q hq => by
            simp only [List.mem_cons, List.not_mem_nil, or_false] at hq
            rcases hq with rfl | rfl | rfl <;> (simp only []; omega)))
          clear hba
          have hba := H.out.blk (r := a) (.head _)
          replace HPF := Lib.hid (HPF.out.side hba 0 (.bool true))
          replace HPL := Lib.hid (HPL.out.side hba 0 (.bool true))
          replace HQF := Lib.hid (HQF.out.side hba 0 (.bool true))
          replace HQL := Lib.hid (HQL.out.side hba 0 (.bool true))
          replace HNF := Lib.hid (HNF.out.side hba 0 (.bool true))
          replace HNL := Lib.hid (HNL.out.side hba 0 (.bool true))
          replace HX := Lib.hid (HX.out.side (k := a) (i := 0) (v := (.bool true)) hga)
          replace H := Lib.hid (H.out.put0 (b' := true) (fun q hq => by
            simp only [List.mem_cons, List.not_mem_nil, or_false] at hq
            rcases hq with rfl | rfl | rfl <;> (simp only []; omega)))
          clear hba
          go_wp2_with fail
          clear p0 p1 p2 q0 q1 q2 k0 k1 k2
          go_roundw
          case rel => exact ⟨i + 1, true, uni pf qf, uni pl ql, ⟨st2.sets, linkP st2.fol pl qf⟩, A5, c5, A6, c6, vS5, vF5, fs7, by go_num, by omega, HRN.out, HX.out, HOKN.out, ⟨(HUP.out.1.1.uni HUP.out.2.1), (HUP.out.1.2.uni HUP.out.2.2)⟩, HSN.out, HNF.out, HNL.out, H.out.sub (by simp)⟩
          case measure => simp [intOf]; omega
        | false =>
          have HRN : Hid (wkCat (kids.drop (i + 1)) ⟨false, uni pf qf, ql⟩ ⟨st2.sets, linkP st2.fol pl qf⟩ = R) := Lib.hid HRN0.out
          obtain ⟨⟨p0, p1, p2⟩, q0, q1, q2⟩ := PB.lay (H.out.blk (r := a) (.head _))
          obtain ⟨⟨k0, k1, k2⟩, -⟩ := PB.lay (H.out.blk (r := K) (.tail _ (.head _)))
          go_wp2_with fail
          clear p0 p1 p2 q0 q1 q2 k0 k1 k2
          refine (union_any _ _ _ _ pf qf w7 HPF.out HQF.out HLEN.out.1 HLEN.out.2.2.1).mono ?_
          rintro e w8 ⟨v, rfl, hv, hk8⟩
          obtain ⟨A5, c5, rfl⟩ := hv.form
          rw [ints_len] at hv ⊢
          have HNF : Hid (Ls (fun k => g < k ∧ ¬ own2 vS5 vF5 k) w8 (.slice A5 (uni pf qf).length c5) (ints (uni pf qf))) := Lib.hid (by
            exact hv.weak fun k _ hk => ⟨by have := blk_lt H.out.m.obj; omega, fun ho => by have := H.out.m.gt k ho; omega⟩)
          replace H := Lib.hid (H.out.kept hk8)
          replace HX := Lib.hid (HX.out.kept hk8)
          replace HPF := Lib.hid (HPF.out.kept hk8)
          replace HPL := Lib.hid (HPL.out.kept hk8)
          replace HQF := Lib.hid (HQF.out.kept hk8)
          replace HQL := Lib.hid (HQL.out.kept hk8)
          clear hv hk8
          obtain ⟨⟨p0, p1, p2⟩, q0, q1, q2⟩ := PB.lay (H.out.blk (r := a) (.head _))
          obtain ⟨⟨k0, k1, k2⟩, -⟩ := PB.lay (H.out.blk (r := K) (.tail _ (.head _)))
          have hba := H.out.blk (r := a) (.head _)
          replace HPF := Lib.hid (HPF.out.side hba 1 (.slice A5 (uni pf qf).length c5))
          replace HPL := Lib.hid (HPL.out.side hba 1 (.slice A5 (uni pf qf).length c5))
          replace HQF := Lib.hid (HQF.out.side hba 1 (.slice A5 (uni pf qf).length c5))
          replace HQL := Lib.hid (HQL.out.side hba 1 (.slice A5 (uni pf qf).length c5))
          replace HNF := Lib.hid (HNF.out.side hba 1 (.slice A5 (uni pf qf).length c5))
          replace HX := Lib.hid (HX.out.side (k := a) (i := 1) (v := (.slice A5 (uni pf qf).length c5)) hga)
          replace H := Lib.hid (H.out.put1 (A := A5) (n := (uni pf qf).length) (c := c5) (fun q hq => by
            simp only [List.mem_cons, List.not_mem_nil, or_false] at hq
            rcases hq with rfl | rfl | rfl <;> (simp only []; omega)))
          clear hba
          have hba := H.out.blk (r := a) (.head _)
          replace HPF := Lib.hid (HPF.out.side hba 2 (.slice A4 ql.length c4))
          replace HPL := Lib.hid (HPL.out.side hba 2 (.slice A4 ql.length c4))
          replace HQF := Lib.hid (HQF.out.side hba 2 (.slice A4 ql.length c4))
          replace HQL := Lib.hid (HQL.out.side hba 2 (.slice A4 ql.length c4))
          replace HNF := Lib.hid (HNF.out.side hba 2 (.slice A4 ql.length c4))
          replace HX := Lib.hid (HX.out.side (k := a) (i := 2) (v := (.slice A4 ql.length c4)) hga)
          replace H := Lib.hid (H.out.put2 (A := A4) (n := ql.length) (c := c4) (fun q hq => by
            simp only [List.mem_cons, List.not_mem_nil, or_false] at hq
            rcases hq with rfl | rfl | rfl <;> (simp only []; omega)))
          clear hba
          have hba := H.out.blk (r := a) (.head _)
          replace HPF := Lib.hid (HPF.out.side hba 0 (.bool false))
          replace HPL := Lib.hid (HPL.out.side hba 0 (.bool false))
          replace HQF := Lib.hid (HQF.out.side hba 0 (.bool false))
          replace HQL := Lib.hid (HQL.out.side hba 0 (.bool false))
          replace HNF := Lib.hid (HNF.out.side hba 0 (.bool false))
          replace HX := Lib.hid (HX.out.side (k := a) (i := 0) (v := (.bool false)) hga)
          replace H := Lib.hid (H.out.put0 (b' := false) (fun q hq => by
            simp only [List.mem_cons, List.not_mem_nil, or_false] at hq
            rcases hq with rfl | rfl | rfl <;> (simp only []; omega)))
          clear hba
          go_wp2_with fail
          clear p0 p1 p2 q0 q1 q2 k0 k1 k2
          go_roundw
          case rel => exact ⟨i + 1, false, uni pf qf, ql, ⟨st2.sets, linkP st2.fol pl qf⟩, A5, c5, A4, c4, vS5, vF5, fs7, by go_num, by omega, HRN.out, HX.out, HOKN.out, ⟨(HUP.out.1.1.uni HUP.out.2.1), HUP.out.2.2⟩, HSN.out, HNF.out, HQL.out, H.out.sub (by simp)⟩
          case measure => simp [intOf]; omega
      | false =>
        cases qn with
        | true =>
          have HRN : Hid (wkCat (kids.drop (i + 1)) ⟨false, pf, uni pl ql⟩ ⟨st2.sets, linkP st2.fol pl qf⟩ = R) := Lib.hid HRN0.out
          obtain ⟨⟨p0, p1, p2⟩, q0, q1, q2⟩ := PB.lay (H.out.blk (r := a) (.head _))
          obtain ⟨⟨k0, k1, k2⟩, -⟩ := PB.lay (H.out.blk (r := K) (.tail _ (.head _)))
          go_wp2_with fail
          clear p0 p1 p2 q0 q1 q2 k0 k1 k2
          refine (union_any _ _ _ _ pl ql w7 HPL.out HQL.out HLEN.out.2.1 HLEN.out.2.2.2).mono ?_
          rintro e w8 ⟨v, rfl, hv, hk8⟩
          obtain ⟨A6, c6, rfl⟩ := hv.form
          rw [ints_len] at hv ⊢
          have HNL : Hid (Ls (fun k => g < k ∧ ¬ own2 vS5 vF5 k) w8 (.slice A6 (uni pl ql).length c6) (ints (uni pl ql))) := Lib.hid (by
            exact hv.weak fun k _ hk => ⟨by have := blk_lt H.out.m.obj; omega, fun ho => by have := H.out.m.gt k ho; omega⟩)
          replace H := Lib.hid (H.out.kept hk8)
          replace HX := Lib.hid (HX.out.kept hk8)
          replace HPF := Lib.hid (HPF.out.kept hk8)
          replace HPL := Lib.hid (HPL.out.kept hk8)
          replace HQF := Lib.hid (HQF.out.kept hk8)
          replace HQL := Lib.hid (HQL.out.kept hk8)
          clear hv hk8
          obtain ⟨⟨p0, p1, p2⟩, q0, q1, q2⟩ := PB.lay (H.out.blk (r := a) (.head _))
          obtain ⟨⟨k0, k1, k2⟩, -⟩ := PB.lay (H.out.blk (r := K) (.tail _ (.head _)))
          have hba := H.out.blk (r := a) (.head _)
          replace HPF := Lib.hid (HPF.out.side hba 2 (.slice A6 (uni pl ql).length c6))
          replace HPL := Lib.hid (HPL.out.side hba 2 (.slice A6 (uni pl ql).length c6))
          replace HQF := Lib.hid (HQF.out.side hba 2 (.slice A6 (uni pl ql).length c6))
          replace HQL := Lib.hid (HQL.out.side hba 2 (.slice A6 (uni pl ql).length c6))
          replace HNL := Lib.hid (HNL.out.side hba 2 (.slice A6 (uni pl ql).length c6))
          replace HX := Lib.hid (HX.out.side (k := a) (i := 2) (v := (.slice A6 (uni pl ql).length c6)) hga)
          replace H := Lib.hid (H.out.put2 (A := A6) (n := (uni pl ql).length) (c := c6) (fun q hq => by
            simp only [List.mem_cons, List.not_mem_nil, or_false] at hq
            rcases hq with rfl | rfl | rfl <;> (simp only []; omega)))
          clear hba
          have hba := H.out.blk (r := a) (.head _)
          replace HPF := Lib.hid (HPF.out.side hba 0 (.bool false))
          replace HPL := Lib.hid (HPL.out.side hba 0 (.bool false))
          replace HQF := Lib.hid (HQF.out.side hba 0 (.bool false))
          replace HQL := Lib.hid (HQL.out.side hba 0 (.bool false))
          replace HNL := Lib.hid (HNL.out.side hba 0 (.bool false))
          replace HX := Lib.hid (HX.out.side (k := a) (i := 0) (v := (.bool false)) hga)
          replace H := Lib.hid (H.out.put0 (b' := false) (fun q hq => by
            simp only [List.mem_cons, List.not_mem_nil, or_false] at hq
            rcases hq with rfl | rfl | rfl <;> (simp only []; omega)))
          clear hba
          go_wp2_with fail
          clear p0 p1 p2 q0 q1 q2 k0 k1 k2
          go_roundw
          case rel => exact ⟨i + 1, false, pf, uni pl ql, ⟨st2.sets, linkP st2.fol pl qf⟩, A1, c1, A6, c6, vS5, vF5, fs7, by go_num, by omega, HRN.out, HX.out, HOKN.out, ⟨HUP.out.1.1, (HUP.out.1.2.uni HUP.out.2.2)⟩, HSN.out, HPF.out, HNL.out, H.out.sub (by simp)⟩
          case measure => simp [intOf]; omega
        | false =>
          have HRN : Hid (wkCat (kids.drop (i + 1)) ⟨false, pf, ql⟩ ⟨st2.sets, linkP st2.fol pl qf⟩ = R) := Lib.hid HRN0.out
          obtain ⟨⟨p0, p1, p2⟩, q0, q1, q2⟩ := PB.lay (H.out.blk (r := a) (.head _))
          obtain ⟨⟨k0, k1, k2⟩, -⟩ := PB.lay (H.out.blk (r := K) (.tail _ (.head _)))
          have hba := H.out.blk (r := a) (.head _)
          replace HPF := Lib.hid (HPF.out.side hba 2 (.slice A4 ql.length c4))
          replace HPL := Lib.hid (HPL.out.side hba 2 (.slice A4 ql.length c4))
          replace HQF := Lib.hid (HQF.out.side hba 2 (.slice A4 ql.length c4))
          replace HQL := Lib.hid (HQL.out.side hba 2 (.slice A4 ql.length c4))
          replace HX := Lib.hid (HX.out.side (k := a) (i := 2) (v := (.slice A4 ql.length c4)) hga)
          replace H := Lib.hid (H.out.put2 (A := A4) (n := ql.length) (c := c4) (fun q hq => by
            simp only [List.mem_cons, List.not_mem_nil, or_false] at hq
            rcases hq with rfl | rfl | rfl <;> (simp only []; omega)))
          clear hba
          have hba := H.out.blk (r := a) (.head _)
          replace HPF := Lib.hid (HPF.out.side hba 0 (.bool false))
          replace HPL := Lib.hid (HPL.out.side hba 0 (.bool false))
          replace HQF := Lib.hid (HQF.out.side hba 0 (.bool false))
          replace HQL := Lib.hid (HQL.out.side hba 0 (.bool false))
          replace HX := Lib.hid (HX.out.side (k := a) (i := 0) (v := (.bool false)) hga)
          replace H := Lib.hid (H.out.put0 (b' := false) (fun q hq => by
            simp only [List.mem_cons, List.not_mem_nil, or_false] at hq
            rcases hq with rfl | rfl | rfl <;> (simp only []; omega)))
          clear hba
          go_wp2_with fail
          clear p0 p1 p2 q0 q1 q2 k0 k1 k2
          go_roundw
          case rel => exact ⟨i + 1, false, pf, ql, ⟨st2.sets, linkP st2.fol pl qf⟩, A1, c1, A4, c4, vS5, vF5, fs7, by go_num, by omega, HRN.out, HX.out, HOKN.out, ⟨HUP.out.1.1, HUP.out.2.2⟩, HSN.out, HPF.out, HQL.out, H.out.sub (by simp)⟩
          case measure => simp [intOf]; omega
    · have hge : ¬ (i : Int) < kids.length := by omega
      have hE : R = (⟨pn, pf, pl⟩, st1) := by rw [← HP.out.2.2, List.drop_eq_nil_of_le (by omega), wkCat]
      obtain ⟨⟨p0, p1, p2⟩, -⟩ := PB.lay (H.out.blk (r := a) (.head _))
      obtain ⟨⟨d0, d1, d2⟩, g0, g1, g2⟩ := PB.lay (H.out.blk (r := r) (.tail _ (.head _)))
      replace H := Lib.hid (H.out.sub (bs' := [(r, PB false none 0 0 none 0 0)]) (by simp))
      have hb0 := H.out.blk List.mem_cons_self
      have H1 := Lib.hid (H.out.put0 (b' := pn) (by simp))
      have hb1 := H1.out.blk List.mem_cons_self
      have H2 := Lib.hid (H1.out.put1 (A := A1) (n := pf.length) (c := c1) (by simp))
      have hb2 := H2.out.blk List.mem_cons_self
      have H3 := Lib.hid (H2.out.put2 (A := A2) (n := pl.length) (c := c2) (by simp))
      have HF := Lib.hid (((HPF.out.side hb0 0 (.bool pn)).side hb1 1 (.slice A1 pf.length c1)).side hb2 2 (.slice A2 pl.length c2))
      have HL := Lib.hid (((HPL.out.side hb0 0 (.bool pn)).side hb1 1 (.slice A1 pf.length c1)).side hb2 2 (.slice A2 pl.length c2))
      have HE := Lib.hid hE
      clear hE hb0 hb1 hb2 H H1 H2 HPF HPL HP HX
      go_wp2_with fail
      refine bodyPost_ret (v := .agg #[.bool pn, .slice A1 pf.length c1, .slice A2 pl.length c2]) ?_ rfl ?_
      · simp [results, Try.results24, go_sem, d0, d1, d2]
      · rw [HE.out]
        exact ⟨_, _, vS1, vF1, fs1, rfl, HF.out, HL.out, H3.out.m, H3.out.v⟩
set_option maxRecDepth 100000 in
set_option maxHeartbeats 16000000 in
theorem rwalk_alt (g : Nat) (w : World) (op : Int) (x : BitVec 256) (kids : List Rx) (A : Option Addr) (cap : Nat) (vS vF : Value) (fs : List Value) (st : Ps) (hx : RxAt (· < g) w (rx6 op x (.slice A kids.length cap)) (.mk op x kids)) (hkl : kids.length ≤ 9223372036854775807) (hm : StM g w vS vF fs st) (hok : Ok st) (IH : ∀ y ∈ kids, WkAny g y) (ho : op = 3) (hk : ¬ kids.length = 0) (hS : st.sets.length + cntL kids ≤ 150) (R : Pt × Ps) (HR : Hid (wkAlt kids ⟨false, [], []⟩ st = R)) : Calls Try.prog 24 #[ptr g, rx6 op x (.slice A kids.length cap)] w (WkSaid g (own2 vS vF) R w) := by
  have H := Lib.hid ((((Ws.start hm).alloc (.cells #[.int .i64 op, .int .u64 (wdN x 0), .int .u64 (wdN x 1), .int .u64 (wdN x 2), .int .u64 (wdN x 3), .slice A kids.length cap] 26)).alloc (.cells #[.bool false, .slice none 0 0, .slice none 0 0] 73)).alloc (.cells #[.bool false, .slice none 0 0, .slice none 0 0] 73))
  have hK0 : Kept w (((w.alloc (.cells #[.int .i64 op, .int .u64 (wdN x 0), .int .u64 (wdN x 1), .int .u64 (wdN x 2), .int .u64 (wdN x 3), .slice A kids.length cap] 26)).alloc (.cells #[.bool false, .slice none 0 0, .slice none 0 0] 73)).alloc (.cells #[.bool false, .slice none 0 0, .slice none 0 0] 73)) := (((Kept.refl _).alloc _).alloc _).alloc _
  have HX := Lib.hid (hx.kept hK0)
  have HOK := Lib.hid hok
  have hgw := blk_lt hm.obj
  have hki : ¬ (kids.length : Int) = 0 := by omega
  have hkb : ((kids.length : Int) == 0) = false := by simpa using hki
  simp only [World.size_alloc] at H
  clear hx hm hok hK0
  subst ho
  unfold ptr at *
  unfold rx6
  go_enter Try.func24, Try.ntmps24
  go_wp2_with fail
  generalize ((w.alloc _).alloc _).alloc _ = W at H HX ⊢
  obtain ⟨B, hB⟩ : ∃ B, w.heap.size = B := ⟨_, rfl⟩
  rw [hB] at H hgw ⊢
  obtain ⟨a, ha⟩ : ∃ a, B + 2 = a := ⟨_, rfl⟩
  obtain ⟨r, hrr⟩ : ∃ r, B + 1 = r := ⟨_, rfl⟩
  rw [ha, hrr] at H ⊢
  go_loopw [10] (LpRel g (own2 vS vF) w 3 x kids A cap a r B (.cells #[.int .i64 3, .int .u64 (wdN x 0), .int .u64 (wdN x 1), .int .u64 (wdN x 2), .int .u64 (wdN x 3), .slice A kids.length cap] 26) wkAlt R) (fun vi _ => kids.length - (intOf vi).toNat)
  case atStart => exact ⟨0, false, [], [], st, none, 0, none, 0, vS, vF, fs, rfl, Nat.zero_le _, HR.out, HX.out, HOK.out, ⟨Up.nil _, Up.nil _⟩, hS, Ls.nil _ _, Ls.nil _ _, H.out⟩
  case round =>
    clear H HX HR HOK
    obtain ⟨i, pn, pf, pl, st1, A1, c1, A2, c2, vS1, vF1, fs1, rfl, hi, hr, hx, hok, hop, hsz, hpf, hpl, hws⟩ := hrel
    have H := Lib.hid hws
    have HX := Lib.hid hx
    have HPF := Lib.hid hpf
    have HPL := Lib.hid hpl
    have HP := Lib.hid (And.intro hok (And.intro hop hr))
    have HSZ := Lib.hid hsz
    clear hws hx hpf hpl hok hop hr hsz
    have hga : g < a := by omega
    obtain ⟨⟨a0, a1, a2, a3, a4, a5⟩, -⟩ := box6 (H.out.blk (r := B) (.tail _ (.tail _ (.head _))))
    have hi0 : (0 : Int) ≤ i := by omega
    by_cases hlt : i < kids.length
    · have hlti : (i : Int) < kids.length := by omega
      have hib : (i : Int) + 1 ≤ 9223372036854775807 := by omega
      obtain ⟨y, hy⟩ : ∃ y, kids[i]? = some y := ⟨_, List.getElem?_eq_getElem hlt⟩
      obtain ⟨p, o, rfl, -, e0, e1, e2, e3, e4, e5, C0, C1, C2, C3, C4, C5, hry⟩ := HX.out.kid hy
      have hd := drop_at' hy
      have hsz := HSZ.out
      rw [hd, cntL] at hsz
      have HCALL := Lib.hid (IH y (List.mem_of_getElem? hy) wr _ vS1 vF1 fs1 st1 hry H.out.m HP.out.1 (by omega))
      obtain ⟨⟨⟨qn, qf, ql⟩, st2⟩, hq⟩ : ∃ q, wk y st1 = q := ⟨_, rfl⟩
      have hwk := wk_ok y st1 HP.out.1
      have hun := HP.out.2.2
      rw [hd, wkAlt] at hun
      rw [hq] at HCALL hwk hun
      simp only at hun
      obtain ⟨hok2, hs2, hq2⟩ := hwk
      simp only at hok2 hs2 hq2
      have hp2 := HP.out.2.1
      have HUP : Hid (OkP st2.sets.length ⟨pn, pf, pl⟩ ∧ OkP st2.sets.length ⟨qn, qf, ql⟩) := Lib.hid ⟨⟨hp2.1.mono (by omega), hp2.2.mono (by omega)⟩, by rw [hs2]; exact hq2⟩
      have HLEN : Hid (pf.length ≤ 1000 ∧ pl.length ≤ 1000 ∧ qf.length ≤ 1000 ∧ ql.length ≤ 1000) := Lib.hid (by
        have b1 := HUP.out.1.1.len
        have b2 := HUP.out.1.2.len
        have b3 := HUP.out.2.1.len
        have b4 := HUP.out.2.2.len
        simp only at b1 b2 b3 b4
        omega)
      have HOK2 := Lib.hid hok2
      have HOKN : Hid (Ok st2) := Lib.hid hok2
      have HSN : Hid (st2.sets.length + cntL (kids.drop (i + 1)) ≤ 150) := Lib.hid (by omega)
      have HRN0 := Lib.hid hun
      have hst2 : st2.sets.length ≤ 150 := by omega
      clear HP hd hsz hq hun hok2 hs2 hq2 hp2 hry hy HSZ
      go_wp2_with fail
      clear C0 C1 C2 C3 C4 C5 a0 a1 a2 a3 a4 a5
      refine HCALL.out.mono ?_
      rintro e w5 ⟨vqf, vql, vS5, vF5, fs5, rfl, hqf, hql, hm5, hv5⟩
      simp only at hqf hql hm5 ⊢
      obtain ⟨A3, c3, rfl⟩ := hqf.form
      obtain ⟨A4, c4, rfl⟩ := hql.form
      rw [ints_len] at hqf hql
      simp only [ints_len]
      replace HPF := Lib.hid (hv5.ls HPF.out)
      replace HPL := Lib.hid (hv5.ls HPL.out)
      replace HX := Lib.hid (hv5.rx (fun k hk => (H.out.m.gt k hk).1) HX.out)
      replace H := Lib.hid (H.out.step hm5 hv5)
      have HQF := Lib.hid hqf
      have HQL := Lib.hid hql
      clear HCALL hm5 hv5 hqf hql
      obtain ⟨K, hK⟩ : ∃ K, w5.heap.size = K := ⟨_, rfl⟩
      have hab := blk_lt (H.out.blk (r := a) (.head _))
      have hrb := blk_lt (H.out.blk (r := r) (.tail _ (.head _)))
      have hBb := blk_lt (H.out.blk (r := B) (.tail _ (.tail _ (.head _))))
      have haK : a < K := by omega
      have hrK : r < K := by omega
      have hBK : B < K := by omega
      have hkk : Kept w5 (w5.alloc (.cells #[.bool qn, .slice A3 qf.length c3, .slice A4 ql.length c4] 73)) := (Kept.refl _).alloc _
      obtain ⟨⟨p0, p1, p2⟩, q0, q1, q2⟩ := PB.lay (H.out.blk (r := a) (.head _))
      replace H := Lib.hid ((H.out.alloc (.cells #[.bool qn, .slice A3 qf.length c3, .slice A4 ql.length c4] 73)))
      rw [hK] at H
      replace H := Lib.hid (H.out.sub (bs' := [(a, PB pn A1 pf.length c1 A2 pl.length c2), (K, PB qn A3 qf.length c3 A4 ql.length c4), (r, PB false none 0 0 none 0 0), (B, (.cells #[.int .i64 3, .int .u64 (wdN x 0), .int .u64 (wdN x 1), .int .u64 (wdN x 2), .int .u64 (wdN x 3), .slice (some ⟨p, o, none⟩) kids.length cap] 26))]) (fun q hq => by
        simp only [List.mem_cons, List.not_mem_nil, or_false] at hq ⊢
        rcases hq with rfl | rfl | rfl | rfl
        · exact .inr (.inl rfl)
        · exact .inl rfl
        · exact .inr (.inr (.inl rfl))
        · exact .inr (.inr (.inr rfl))))
      replace HX := Lib.hid (HX.out.kept hkk)
      replace HPF := Lib.hid (HPF.out.kept hkk)
      replace HPL := Lib.hid (HPL.out.kept hkk)
      replace HQF := Lib.hid (HQF.out.kept hkk)
      replace HQL := Lib.hid (HQL.out.kept hkk)
      clear hkk hab hrb hBb
      go_wp2_with fail
      generalize w5.alloc _ = w6 at H HX HPF HPL HQF HQL ⊢
      clear p0 p1 p2 q0 q1 q2 hK
      cases pn with
      | true =>
        cases qn with
        | true =>
          have HRN : Hid (wkAlt (kids.drop (i + 1)) ⟨true, uni pf qf, uni pl ql⟩ st2 = R) := Lib.hid HRN0.out
          refine (union_any _ _ _ _ pf qf w6 HPF.out HQF.out HLEN.out.1 HLEN.out.2.2.1).mono ?_
          rintro e w8 ⟨v, rfl, hv, hk8⟩
          obtain ⟨A5, c5, rfl⟩ := hv.form
          rw [ints_len] at hv ⊢
          have HNF : Hid (Ls (fun k => g < k ∧ ¬ own2 vS5 vF5 k) w8 (.slice A5 (uni pf qf).length c5) (ints (uni pf qf))) := Lib.hid (by
            exact hv.weak fun k _ hk => ⟨by have := blk_lt H.out.m.obj; omega, fun ho => by have := H.out.m.gt k ho; omega⟩)
          replace H := Lib.hid (H.out.kept hk8)
          replace HX := Lib.hid (HX.out.kept hk8)
          replace HPF := Lib.hid (HPF.out.kept hk8)
          replace HPL := Lib.hid (HPL.out.kept hk8)
          replace HQF := Lib.hid (HQF.out.kept hk8)
          replace HQL := Lib.hid (HQL.out.kept hk8)
          clear hv hk8
          obtain ⟨⟨p0, p1, p2⟩, q0, q1, q2⟩ := PB.lay (H.out.blk (r := a) (.head _))
          obtain ⟨⟨k0, k1, k2⟩, -⟩ := PB.lay (H.out.blk (r := K) (.tail _ (.head _)))
          have hba := H.out.blk (r := a) (.head _)
          replace HPF := Lib.hid (HPF.out.side hba 1 (.slice A5 (uni pf qf).length c5))
          replace HPL := Lib.hid (HPL.out.side hba 1 (.slice A5 (uni pf qf).length c5))
          replace HQF := Lib.hid (HQF.out.side hba 1 (.slice A5 (uni pf qf).length c5))
          replace HQL := Lib.hid (HQL.out.side hba 1 (.slice A5 (uni pf qf).length c5))
          replace HNF := Lib.hid (HNF.out.side hba 1 (.slice A5 (uni pf qf).length c5))
          replace HX := Lib.hid (HX.out.side (k := a) (i := 1) (v := (.slice A5 (uni pf qf).length c5)) hga)
          replace H := Lib.hid (H.out.put1 (A := A5) (n := (uni pf qf).length) (c := c5) (fun q hq => by
            simp only [List.mem_cons, List.not_mem_nil, or_false] at hq
            rcases hq with rfl | rfl | rfl <;> (simp only []; omega)))
          clear hba
          go_wp2_with fail
          clear p0 p1 p2 q0 q1 q2 k0 k1 k2
          generalize w8.setCell _ _ = w9 at H HX HPF HPL HQF HQL HNF ⊢
          refine (union_any _ _ _ _ pl ql w9 HPL.out HQL.out HLEN.out.2.1 HLEN.out.2.2.2).mono ?_
          rintro e w10 ⟨v, rfl, hv, hk8⟩
          obtain ⟨A6, c6, rfl⟩ := hv.form
          rw [ints_len] at hv ⊢
          have HNL : Hid (Ls (fun k => g < k ∧ ¬ own2 vS5 vF5 k) w10 (.slice A6 (uni pl ql).length c6) (ints (uni pl ql))) := Lib.hid (by
            exact hv.weak fun k _ hk => ⟨by have := blk_lt H.out.m.obj; omega, fun ho => by have := H.out.m.gt k ho; omega⟩)
          replace H := Lib.hid (H.out.kept hk8)
          replace HX := Lib.hid (HX.out.kept hk8)
          replace HPF := Lib.hid (HPF.out.kept hk8)
          replace HPL := Lib.hid (HPL.out.kept hk8)
          replace HQF := Lib.hid (HQF.out.kept hk8)
          replace HQL := Lib.hid (HQL.out.kept hk8)
          replace HNF := Lib.hid (HNF.out.kept hk8)
          clear hv hk8
          obtain ⟨⟨p0, p1, p2⟩, q0, q1, q2⟩ := PB.lay (H.out.blk (r := a) (.head _))
          obtain ⟨⟨k0, k1, k2⟩, -⟩ := PB.lay (H.out.blk (r := K) (.tail _ (.head _)))
          have hba := H.out.blk (r := a) (.head _)
          replace HPF := Lib.hid (HPF.out.side hba 2 (.slice A6 (uni pl ql).length c6))
          replace HPL := Lib.hid (HPL.out.side hba 2 (.slice A6 (uni pl ql).length c6))
          replace HQF := Lib.hid (HQF.out.side hba 2 (.slice A6 (uni pl ql).length c6))
          replace HQL := Lib.hid (HQL.out.side hba 2 (.slice A6 (uni pl ql).length c6))
          replace HNF := Lib.hid (HNF.out.side hba 2 (.slice A6 (uni pl ql).length c6))
          replace HNL := Lib.hid (HNL.out.side hba 2 (.slice A6 (uni pl ql).length c6))
          replace HX := Lib.hid (HX.out.side (k := a) (i := 2) (v := (.slice A6 (uni pl ql).length c6)) hga)
          replace H := Lib.hid (H.out.put2 (A := A6) (n := (uni pl ql).length) (c := c6) (fun q hq => by
            simp only [List.mem_cons, List.not_mem_nil, or_false] at hq
            rcases hq with rfl | rfl | rfl <;> (simp only []; omega)))
          clear hba
          have hba := H.out.blk (r := a) (.head _)
          replace HPF := Lib.hid (HPF.out.side hba 0 (.bool true))
          replace HPL := Lib.hid (HPL.out.side hba 0 (.bool true))
          replace HQF := Lib.hid (HQF.out.side hba 0 (.bool true))
          replace HQL := Lib.hid (HQL.out.side hba 0 (.bool true))
          replace HNF := Lib.hid (HNF.out.side hba 0 (.bool true))
          replace HNL := Lib.hid (HNL.out.side hba 0 (.bool true))
          replace HX := Lib.hid (HX.out.side (k := a) (i := 0) (v := (.bool true)) hga)
          replace H := Lib.hid (H.out.put0 (b' := true) (fun q hq => by
            simp only [List.mem_cons, List.not_mem_nil, or_false] at hq
            rcases hq with rfl | rfl | rfl <;> (simp only []; omega)))
          clear hba
          go_wp2_with fail
          clear p0 p1 p2 q0 q1 q2 k0 k1 k2
          go_roundw
          case rel => exact ⟨i + 1, true, uni pf qf, uni pl ql, st2, A5, c5, A6, c6, vS5, vF5, fs5, by go_num, by omega, HRN.out, HX.out, HOKN.out, ⟨(HUP.out.1.1.uni HUP.out.2.1), (HUP.out.1.2.uni HUP.out.2.2)⟩, HSN.out, HNF.out, HNL.out, H.out.sub (by simp)⟩
          case measure => simp [intOf]; omega
        | false =>
          have HRN : Hid (wkAlt (kids.drop (i + 1)) ⟨true, uni pf qf, uni pl ql⟩ st2 = R) := Lib.hid HRN0.out
          refine (union_any _ _ _ _ pf qf w6 HPF.out HQF.out HLEN.out.1 HLEN.out.2.2.1).mono ?_
          rintro e w8 ⟨v, rfl, hv, hk8⟩
          obtain ⟨A5, c5, rfl⟩ := hv.form
          rw [ints_len] at hv ⊢
          have HNF : Hid (Ls (fun k => g < k ∧ ¬ own2 vS5 vF5 k) w8 (.slice A5 (uni pf qf).length c5) (ints (uni pf qf))) := Lib.hid (by
            exact hv.weak fun k _ hk => ⟨by have := blk_lt H.out.m.obj; omega, fun ho => by have := H.out.m.gt k ho; omega⟩)
          replace H := Lib.hid (H.out.kept hk8)
          replace HX := Lib.hid (HX.out.kept hk8)
          replace HPF := Lib.hid (HPF.out.kept hk8)
          replace HPL := Lib.hid (HPL.out.kept hk8)
          replace HQF := Lib.hid (HQF.out.kept hk8)
          replace HQL := Lib.hid (HQL.out.kept hk8)
          clear hv hk8
          obtain ⟨⟨p0, p1, p2⟩, q0, q1, q2⟩ := PB.lay (H.out.blk (r := a) (.head _))
          obtain ⟨⟨k0, k1, k2⟩, -⟩ := PB.lay (H.out.blk (r := K) (.tail _ (.head _)))
          have hba := H.out.blk (r := a) (.head _)
          replace HPF := Lib.hid (HPF.out.side hba 1 (.slice A5 (uni pf qf).length c5))
          replace HPL := Lib.hid (HPL.out.side hba 1 (.slice A5 (uni pf qf).length c5))
          replace HQF := Lib.hid (HQF.out.side hba 1 (.slice A5 (uni pf qf).length c5))
          replace HQL := Lib.hid (HQL.out.side hba 1 (.slice A5 (uni pf qf).length c5))
          replace HNF := Lib.hid (HNF.out.side hba 1 (.slice A5 (uni pf qf).length c5))
          replace HX := Lib.hid (HX.out.side (k := a) (i := 1) (v := (.slice A5 (uni pf qf).length c5)) hga)
          replace H := Lib.hid (H.out.put1 (A := A5) (n := (uni pf qf).length) (c := c5) (fun q hq => by
            simp only [List.mem_cons, List.not_mem_nil, or_false] at hq
            rcases hq with rfl | rfl | rfl <;> (simp only []; omega)))
          clear hba
          go_wp2_with fail
          clear p0 p1 p2 q0 q1 q2 k0 k1 k2
          generalize w8.setCell _ _ = w9 at H HX HPF HPL HQF HQL HNF ⊢
          refine (union_any _ _ _ _ pl ql w9 HPL.out HQL.out HLEN.out.2.1 HLEN.out.2.2.2).mono ?_
          rintro e w10 ⟨v, rfl, hv, hk8⟩
          obtain ⟨A6, c6, rfl⟩ := hv.form
          rw [ints_len] at hv ⊢
          have HNL : Hid (Ls (fun k => g < k ∧ ¬ own2 vS5 vF5 k) w10 (.slice A6 (uni pl ql).length c6) (ints (uni pl ql))) := Lib.hid (by
            exact hv.weak fun k _ hk => ⟨by have := blk_lt H.out.m.obj; omega, fun ho => by have := H.out.m.gt k ho; omega⟩)
          replace H := Lib.hid (H.out.kept hk8)
          replace HX := Lib.hid (HX.out.kept hk8)
          replace HPF := Lib.hid (HPF.out.kept hk8)
          replace HPL := Lib.hid (HPL.out.kept hk8)
          replace HQF := Lib.hid (HQF.out.kept hk8)
          replace HQL := Lib.hid (HQL.out.kept hk8)
          replace HNF := Lib.hid (HNF.out.kept hk8)
          clear hv hk8
          obtain ⟨⟨p0, p1, p2⟩, q0, q1, q2⟩ := PB.lay (H.out.blk (r := a) (.head _))
          obtain ⟨⟨k0, k1, k2⟩, -⟩ := PB.lay (H.out.blk (r := K) (.tail _ (.head _)))
          have hba := H.out.blk (r := a) (.head _)
          replace HPF := Lib.hid (HPF.out.side hba 2 (.slice A6 (uni pl ql).length c6))
          replace HPL := Lib.hid (HPL.out.side hba 2 (.slice A6 (uni pl ql).length c6))
          replace HQF := Lib.hid (HQF.out.side hba 2 (.slice A6 (uni pl ql).length c6))
          replace HQL := Lib.hid (HQL.out.side hba 2 (.slice A6 (uni pl ql).length c6))
          replace HNF := Lib.hid (HNF.out.side hba 2 (.slice A6 (uni pl ql).length c6))
          replace HNL := Lib.hid (HNL.out.side hba 2 (.slice A6 (uni pl ql).length c6))
          replace HX := Lib.hid (HX.out.side (k := a) (i := 2) (v := (.slice A6 (uni pl ql).length c6)) hga)
          replace H := Lib.hid (H.out.put2 (A := A6) (n := (uni pl ql).length) (c := c6) (fun q hq => by
            simp only [List.mem_cons, List.not_mem_nil, or_false] at hq
            rcases hq with rfl | rfl | rfl <;> (simp only []; omega)))
          clear hba
          have hba := H.out.blk (r := a) (.head _)
          replace HPF := Lib.hid (HPF.out.side hba 0 (.bool true))
          replace HPL := Lib.hid (HPL.out.side hba 0 (.bool true))
          replace HQF := Lib.hid (HQF.out.side hba 0 (.bool true))
          replace HQL := Lib.hid (HQL.out.side hba 0 (.bool true))
          replace HNF := Lib.hid (HNF.out.side hba 0 (.bool true))
          replace HNL := Lib.hid (HNL.out.side hba 0 (.bool true))
          replace HX := Lib.hid (HX.out.side (k := a) (i := 0) (v := (.bool true)) hga)
          replace H := Lib.hid (H.out.put0 (b' := true) (fun q hq => by
            simp only [List.mem_cons, List.not_mem_nil, or_false] at hq
            rcases hq with rfl | rfl | rfl <;> (simp only []; omega)))
          clear hba
          go_wp2_with fail
          clear p0 p1 p2 q0 q1 q2 k0 k1 k2
          go_roundw
          case rel => exact ⟨i + 1, true, uni pf qf, uni pl ql, st2, A5, c5, A6, c6, vS5, vF5, fs5, by go_num, by omega, HRN.out, HX.out, HOKN.out, ⟨(HUP.out.1.1.uni HUP.out.2.1), (HUP.out.1.2.uni HUP.out.2.2)⟩, HSN.out, HNF.out, HNL.out, H.out.sub (by simp)⟩
          case measure => simp [intOf]; omega
      | false =>
        cases qn with
        | true =>
          have HRN : Hid (wkAlt (kids.drop (i + 1)) ⟨true, uni pf qf, uni pl ql⟩ st2 = R) := Lib.hid HRN0.out
          refine (union_any _ _ _ _ pf qf w6 HPF.out HQF.out HLEN.out.1 HLEN.out.2.2.1).mono ?_
          rintro e w8 ⟨v, rfl, hv, hk8⟩
          obtain ⟨A5, c5, rfl⟩ := hv.form
          rw [ints_len] at hv ⊢
          have HNF : Hid (Ls (fun k => g < k ∧ ¬ own2 vS5 vF5 k) w8 (.slice A5 (uni pf qf).length c5) (ints (uni pf qf))) := Lib.hid (by
            exact hv.weak fun k _ hk => ⟨by have := blk_lt H.out.m.obj; omega, fun ho => by have := H.out.m.gt k ho; omega⟩)
          replace H := Lib.hid (H.out.kept hk8)
          replace HX := Lib.hid (HX.out.kept hk8)
          replace HPF := Lib.hid (HPF.out.kept hk8)
          replace HPL := Lib.hid (HPL.out.kept hk8)
          replace HQF := Lib.hid (HQF.out.kept hk8)
          replace HQL := Lib.hid (HQL.out.kept hk8)
          clear hv hk8
          obtain ⟨⟨p0, p1, p2⟩, q0, q1, q2⟩ := PB.lay (H.out.blk (r := a) (.head _))
          obtain ⟨⟨k0, k1, k2⟩, -⟩ := PB.lay (H.out.blk (r := K) (.tail _ (.head _)))
          have hba := H.out.blk (r := a) (.head _)
          replace HPF := Lib.hid (HPF.out.side hba 1 (.slice A5 (uni pf qf).length c5))
          replace HPL := Lib.hid (HPL.out.side hba 1 (.slice A5 (uni pf qf).length c5))
          replace HQF := Lib.hid (HQF.out.side hba 1 (.slice A5 (uni pf qf).length c5))
          replace HQL := Lib.hid (HQL.out.side hba 1 (.slice A5 (uni pf qf).length c5))
          replace HNF := Lib.hid (HNF.out.side hba 1 (.slice A5 (uni pf qf).length c5))
          replace HX := Lib.hid (HX.out.side (k := a) (i := 1) (v := (.slice A5 (uni pf qf).length c5)) hga)
          replace H := Lib.hid (H.out.put1 (A := A5) (n := (uni pf qf).length) (c := c5) (fun q hq => by
            simp only [List.mem_cons, List.not_mem_nil, or_false] at hq
            rcases hq with rfl | rfl | rfl <;> (simp only []; omega)))
          clear hba
          go_wp2_with fail
          clear p0 p1 p2 q0 q1 q2 k0 k1 k2
          generalize w8.setCell _ _ = w9 at H HX HPF HPL HQF HQL HNF ⊢
          refine (union_any _ _ _ _ pl ql w9 HPL.out HQL.out HLEN.out.2.1 HLEN.out.2.2.2).mono ?_
          rintro e w10 ⟨v, rfl, hv, hk8⟩
          obtain ⟨A6, c6, rfl⟩ := hv.form
          rw [ints_len] at hv ⊢
          have HNL : Hid (Ls (fun k => g < k ∧ ¬ own2 vS5 vF5 k) w10 (.slice A6 (uni pl ql).length c6) (ints (uni pl ql))) := Lib.hid (by
            exact hv.weak fun k _ hk => ⟨by have := blk_lt H.out.m.obj; omega, fun ho => by have := H.out.m.gt k ho; omega⟩)
          replace H := Lib.hid (H.out.kept hk8)
          replace HX := Lib.hid (HX.out.kept hk8)
          replace HPF := Lib.hid (HPF.out.kept hk8)
          replace HPL := Lib.hid (HPL.out.kept hk8)
          replace HQF := Lib.hid (HQF.out.kept hk8)
          replace HQL := Lib.hid (HQL.out.kept hk8)
          replace HNF := Lib.hid (HNF.out.kept hk8)
          clear hv hk8
          obtain ⟨⟨p0, p1, p2⟩, q0, q1, q2⟩ := PB.lay (H.out.blk (r := a) (.head _))
          obtain ⟨⟨k0, k1, k2⟩, -⟩ := PB.lay (H.out.blk (r := K) (.tail _ (.head _)))
          have hba := H.out.blk (r := a) (.head _)
          replace HPF := Lib.hid (HPF.out.side hba 2 (.slice A6 (uni pl ql).length c6))
          replace HPL := Lib.hid (HPL.out.side hba 2 (.slice A6 (uni pl ql).length c6))
          replace HQF := Lib.hid (HQF.out.side hba 2 (.slice A6 (uni pl ql).length c6))
          replace HQL := Lib.hid (HQL.out.side hba 2 (.slice A6 (uni pl ql).length c6))
          replace HNF := Lib.hid (HNF.out.side hba 2 (.slice A6 (uni pl ql).length c6))
          replace HNL := Lib.hid (HNL.out.side hba 2 (.slice A6 (uni pl ql).length c6))
          replace HX := Lib.hid (HX.out.side (k := a) (i := 2) (v := (.slice A6 (uni pl ql).length c6)) hga)
          replace H := Lib.hid (H.out.put2 (A := A6) (n := (uni pl ql).length) (c := c6) (fun q hq => by
            simp only [List.mem_cons, List.not_mem_nil, or_false] at hq
            rcases hq with rfl | rfl | rfl <;> (simp only []; omega)))
          clear hba
          have hba := H.out.blk (r := a) (.head _)
          replace HPF := Lib.hid (HPF.out.side hba 0 (.bool true))
          replace HPL := Lib.hid (HPL.out.side hba 0 (.bool true))
          replace HQF := Lib.hid (HQF.out.side hba 0 (.bool true))
          replace HQL := Lib.hid (HQL.out.side hba 0 (.bool true))
          replace HNF := Lib.hid (HNF.out.side hba 0 (.bool true))
          replace HNL := Lib.hid (HNL.out.side hba 0 (.bool true))
          replace HX := Lib.hid (HX.out.side (k := a) (i := 0) (v := (.bool true)) hga)
          replace H := Lib.hid (H.out.put0 (b' := true) (fun q hq => by
            simp only [List.mem_cons, List.not_mem_nil, or_false] at hq
            rcases hq with rfl | rfl | rfl <;> (simp only []; omega)))
          clear hba
          go_wp2_with fail
          clear p0 p1 p2 q0 q1 q2 k0 k1 k2
          go_roundw
          case rel => exact ⟨i + 1, true, uni pf qf, uni pl ql, st2, A5, c5, A6, c6, vS5, vF5, fs5, by go_num, by omega, HRN.out, HX.out, HOKN.out, ⟨(HUP.out.1.1.uni HUP.out.2.1), (HUP.out.1.2.uni HUP.out.2.2)⟩, HSN.out, HNF.out, HNL.out, H.out.sub (by simp)⟩
          case measure => simp [intOf]; omega
        | false =>
          have HRN : Hid (wkAlt (kids.drop (i + 1)) ⟨false, uni pf qf, uni pl ql⟩ st2 = R) := Lib.hid HRN0.out
          refine (union_any _ _ _ _ pf qf w6 HPF.out HQF.out HLEN.out.1 HLEN.out.2.2.1).mono ?_
          rintro e w8 ⟨v, rfl, hv, hk8⟩
          obtain ⟨A5, c5, rfl⟩ := hv.form
          rw [ints_len] at hv ⊢
          have HNF : Hid (Ls (fun k => g < k ∧ ¬ own2 vS5 vF5 k) w8 (.slice A5 (uni pf qf).length c5) (ints (uni pf qf))) := Lib.hid (by
            exact hv.weak fun k _ hk => ⟨by have := blk_lt H.out.m.obj; omega, fun ho => by have := H.out.m.gt k ho; omega⟩)
          replace H := Lib.hid (H.out.kept hk8)
          replace HX := Lib.hid (HX.out.kept hk8)
          replace HPF := Lib.hid (HPF.out.kept hk8)
          replace HPL := Lib.hid (HPL.out.kept hk8)
          replace HQF := Lib.hid (HQF.out.kept hk8)
          replace HQL := Lib.hid (HQL.out.kept hk8)
          clear hv hk8
          obtain ⟨⟨p0, p1, p2⟩, q0, q1, q2⟩ := PB.lay (H.out.blk (r := a) (.head _))
          obtain ⟨⟨k0, k1, k2⟩, -⟩ := PB.lay (H.out.blk (r := K) (.tail _ (.head _)))
          have hba := H.out.blk (r := a) (.head _)
          replace HPF := Lib.hid (HPF.out.side hba 1 (.slice A5 (uni pf qf).length c5))
          replace HPL := Lib.hid (HPL.out.side hba 1 (.slice A5 (uni pf qf).length c5))
          replace HQF := Lib.hid (HQF.out.side hba 1 (.slice A5 (uni pf qf).length c5))
          replace HQL := Lib.hid (HQL.out.side hba 1 (.slice A5 (uni pf qf).length c5))
          replace HNF := Lib.hid (HNF.out.side hba 1 (.slice A5 (uni pf qf).length c5))
          replace HX := Lib.hid (HX.out.side (k := a) (i := 1) (v := (.slice A5 (uni pf qf).length c5)) hga)
          replace H := Lib.hid (H.out.put1 (A := A5) (n := (uni pf qf).length) (c := c5) (fun q hq => by
            simp only [List.mem_cons, List.not_mem_nil, or_false] at hq
            rcases hq with rfl | rfl | rfl <;> (simp only []; omega)))
          clear hba
          go_wp2_with fail
          clear p0 p1 p2 q0 q1 q2 k0 k1 k2
          generalize w8.setCell _ _ = w9 at H HX HPF HPL HQF HQL HNF ⊢
          refine (union_any _ _ _ _ pl ql w9 HPL.out HQL.out HLEN.out.2.1 HLEN.out.2.2.2).mono ?_
          rintro e w10 ⟨v, rfl, hv, hk8⟩
          obtain ⟨A6, c6, rfl⟩ := hv.form
          rw [ints_len] at hv ⊢
          have HNL : Hid (Ls (fun k => g < k ∧ ¬ own2 vS5 vF5 k) w10 (.slice A6 (uni pl ql).length c6) (ints (uni pl ql))) := Lib.hid (by
            exact hv.weak fun k _ hk => ⟨by have := blk_lt H.out.m.obj; omega, fun ho => by have := H.out.m.gt k ho; omega⟩)
          replace H := Lib.hid (H.out.kept hk8)
          replace HX := Lib.hid (HX.out.kept hk8)
          replace HPF := Lib.hid (HPF.out.kept hk8)
          replace HPL := Lib.hid (HPL.out.kept hk8)
          replace HQF := Lib.hid (HQF.out.kept hk8)
          replace HQL := Lib.hid (HQL.out.kept hk8)
          replace HNF := Lib.hid (HNF.out.kept hk8)
          clear hv hk8
          obtain ⟨⟨p0, p1, p2⟩, q0, q1, q2⟩ := PB.lay (H.out.blk (r := a) (.head _))
          obtain ⟨⟨k0, k1, k2⟩, -⟩ := PB.lay (H.out.blk (r := K) (.tail _ (.head _)))
          have hba := H.out.blk (r := a) (.head _)
          replace HPF := Lib.hid (HPF.out.side hba 2 (.slice A6 (uni pl ql).length c6))
          replace HPL := Lib.hid (HPL.out.side hba 2 (.slice A6 (uni pl ql).length c6))
          replace HQF := Lib.hid (HQF.out.side hba 2 (.slice A6 (uni pl ql).length c6))
          replace HQL := Lib.hid (HQL.out.side hba 2 (.slice A6 (uni pl ql).length c6))
          replace HNF := Lib.hid (HNF.out.side hba 2 (.slice A6 (uni pl ql).length c6))
          replace HNL := Lib.hid (HNL.out.side hba 2 (.slice A6 (uni pl ql).length c6))
          replace HX := Lib.hid (HX.out.side (k := a) (i := 2) (v := (.slice A6 (uni pl ql).length c6)) hga)
          replace H := Lib.hid (H.out.put2 (A := A6) (n := (uni pl ql).length) (c := c6) (fun q hq => by
            simp only [List.mem_cons, List.not_mem_nil, or_false] at hq
            rcases hq with rfl | rfl | rfl <;> (simp only []; omega)))
          clear hba
          have hba := H.out.blk (r := a) (.head _)
          replace HPF := Lib.hid (HPF.out.side hba 0 (.bool false))
          replace HPL := Lib.hid (HPL.out.side hba 0 (.bool false))
          replace HQF := Lib.hid (HQF.out.side hba 0 (.bool false))
          replace HQL := Lib.hid (HQL.out.side hba 0 (.bool false))
          replace HNF := Lib.hid (HNF.out.side hba 0 (.bool false))
          replace HNL := Lib.hid (HNL.out.side hba 0 (.bool false))
          replace HX := Lib.hid (HX.out.side (k := a) (i := 0) (v := (.bool false)) hga)
          replace H := Lib.hid (H.out.put0 (b' := false) (fun q hq => by
            simp only [List.mem_cons, List.not_mem_nil, or_false] at hq
            rcases hq with rfl | rfl | rfl <;> (simp only []; omega)))
          clear hba
          go_wp2_with fail
          clear p0 p1 p2 q0 q1 q2 k0 k1 k2
          go_roundw
          case rel => exact ⟨i + 1, false, uni pf qf, uni pl ql, st2, A5, c5, A6, c6, vS5, vF5, fs5, by go_num, by omega, HRN.out, HX.out, HOKN.out, ⟨(HUP.out.1.1.uni HUP.out.2.1), (HUP.out.1.2.uni HUP.out.2.2)⟩, HSN.out, HNF.out, HNL.out, H.out.sub (by simp)⟩
          case measure => simp [intOf]; omega
    · have hge : ¬ (i : Int) < kids.length := by omega
      have hE : R = (⟨pn, pf, pl⟩, st1) := by rw [← HP.out.2.2, List.drop_eq_nil_of_le (by omega), wkAlt]
      obtain ⟨⟨p0, p1, p2⟩, -⟩ := PB.lay (H.out.blk (r := a) (.head _))
      obtain ⟨⟨d0, d1, d2⟩, g0, g1, g2⟩ := PB.lay (H.out.blk (r := r) (.tail _ (.head _)))
      replace H := Lib.hid (H.out.sub (bs' := [(r, PB false none 0 0 none 0 0)]) (by simp))
      have hb0 := H.out.blk List.mem_cons_self
      have H1 := Lib.hid (H.out.put0 (b' := pn) (by simp))
      have hb1 := H1.out.blk List.mem_cons_self
      have H2 := Lib.hid (H1.out.put1 (A := A1) (n := pf.length) (c := c1) (by simp))
      have hb2 := H2.out.blk List.mem_cons_self
      have H3 := Lib.hid (H2.out.put2 (A := A2) (n := pl.length) (c := c2) (by simp))
      have HF := Lib.hid (((HPF.out.side hb0 0 (.bool pn)).side hb1 1 (.slice A1 pf.length c1)).side hb2 2 (.slice A2 pl.length c2))
      have HL := Lib.hid (((HPL.out.side hb0 0 (.bool pn)).side hb1 1 (.slice A1 pf.length c1)).side hb2 2 (.slice A2 pl.length c2))
      have HE := Lib.hid hE
      clear hE hb0 hb1 hb2 H H1 H2 HPF HPL HP HX
      go_wp2_with fail
      refine bodyPost_ret (v := .agg #[.bool pn, .slice A1 pf.length c1, .slice A2 pl.length c2]) ?_ rfl ?_
      · simp [results, Try.results24, go_sem, d0, d1, d2]
      · rw [HE.out]
        exact ⟨_, _, vS1, vF1, fs1, rfl, HF.out, HL.out, H3.out.m, H3.out.v⟩
end Go.Proofs.Ytdbffbdpofodmaa
