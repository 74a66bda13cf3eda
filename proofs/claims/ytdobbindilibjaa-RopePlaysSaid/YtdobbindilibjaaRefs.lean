/-
  What rope.Byte, and the document's own Lines and Slice do, on values and memory.
-/
import Derived.Test.YtdobbindilibjaaRope
set_option linter.unusedSimpArgs false
namespace Go.Proofs.Ytdobbindilibjaa
open Go Go.RowKit Kit
theorem nl_take (l : List UInt8) (k : Nat) (c : UInt8) (h : l[k]? = some c) : nl (l.take (k + 1)) = nl (l.take k) + if c = 10 then 1 else 0 := by
  obtain ⟨hk, rfl⟩ := List.getElem?_eq_some_iff.1 h
  rw [List.take_succ_eq_append_getElem hk, nl_app]
  unfold nl
  simp [List.count_cons]
set_option maxHeartbeats 1000000 in
theorem refLines_any (v : Value) (l : List UInt8) (w : World) (h : Bs w v l) (hl : l.length ≤ 100000000000000) : Calls Try.prog 12 #[v] w fun e w' => e = .returned (.int .i64 ((nl l : Int) + 1)) ∧ w = w' := by
  obtain ⟨A, c, rfl, hc1, hc2, hel⟩ := h
  have HEL := Lib.hid hel
  clear hel
  go_enter Try.func12, Try.ntmps12
  go_wp2_with fail
  go_loop [3, 4] (fun n i => ∃ k : Nat, k ≤ l.length ∧ i = .int .i64 (k : Int) ∧ n = .int .i64 ((nl (l.take k) : Int) + 1)) (fun _ i => l.length - (intOf i).toNat)
  case atStart => exact ⟨0, Nat.zero_le _, rfl, rfl⟩
  case round =>
    obtain ⟨k, hk, rfl, rfl⟩ := hrel
    have hz := nl_le (l.take k)
    have hz2 : (l.take k).length ≤ l.length := by simp; omega
    by_cases hlt : k < l.length
    · have y1 : (k : Int) < l.length := by omega
      obtain ⟨u, hu⟩ : ∃ u, l[k]? = some u := ⟨_, List.getElem?_eq_getElem hlt⟩
      obtain ⟨ad, rfl, hcell⟩ := HEL.out k u hu
      have HN := Lib.hid (nl_take l k u hu)
      unfold bv at hcell
      have z1 : (nl (l.take k) : Int) ≤ 100000000000000 := by omega
      have z2 : (0 : Int) ≤ (nl (l.take k) : Int) := by omega
      generalize hq : (nl (l.take k) : Int) = q at *
      have HQ := Lib.hid hq
      clear hq hu hz hz2
      by_cases h10 : u = 10
      · have t1 : ((u.toNat : Int) == 10) = true := by rw [h10]; rfl
        go_wp2_with fail
        go_round
        case rel => exact ⟨k + 1, by omega, by go_num, by rw [HN.out, if_pos h10, ← HQ.out]; go_num⟩
        case measure => simp [intOf]; omega
      · have t0 : ¬ u.toNat = 10 := fun e => h10 (UInt8.toNat_inj.1 (by simpa using e))
        have t1 : ((u.toNat : Int) == 10) = false := by simp; omega
        go_wp2_with fail
        go_round
        case rel => exact ⟨k + 1, by omega, by go_num, by rw [HN.out, if_neg h10, ← HQ.out]; go_num⟩
        case measure => simp [intOf]; omega
    · have y1 : ¬ (k : Int) < l.length := by omega
      obtain rfl : k = l.length := by omega
      rw [List.take_of_length_le (Nat.le_refl _)]
      go_wp2_with fail
      go_ret
      exact ⟨rfl, rfl⟩
set_option maxHeartbeats 1000000 in
theorem refSlice_any (v : Value) (s : List UInt8) (f g : Int) (w : World) (h : Bs w v s) (hs : s.length ≤ 100000000000000) :
    Calls Try.prog 16 #[v, .int .i64 f, .int .i64 g] w fun e w' => ∃ u, e = .returned u ∧ Bs w' u ((s.take (max (max 0 (min f s.length)) (min g s.length)).toNat).drop (max 0 (min f s.length)).toNat) ∧ Kept w w' := by
  obtain ⟨A, c, rfl, hc1, hc2, -⟩ := id h
  unfold maxLen at hc2
  obtain ⟨i0, hi, hz0, hz1, hz2⟩ := info_parts info5
  obtain ⟨lo, hlo⟩ : ∃ lo : Nat, max 0 (min f s.length) = (lo : Int) := ⟨(max 0 (min f s.length)).toNat, by omega⟩
  obtain ⟨hi', hhi⟩ : ∃ hi : Nat, max (lo : Int) (min g s.length) = (hi : Int) := ⟨(max (lo : Int) (min g s.length)).toNat, by omega⟩
  rw [hlo, hhi]
  have q1 : (lo : Int) ≤ hi' := by omega
  have q2 : (hi' : Int) ≤ s.length := by omega
  have r1 : rcut f 0 s.length = (lo : Int) := by unfold rcut; split <;> (try split) <;> omega
  have r2 : rcut g lo s.length = (hi' : Int) := by unfold rcut; split <;> (try split) <;> omega
  have HLO := Lib.hid (And.intro r1 r2)
  have hcut := h.cut (lo := lo) (hi := hi') (m := c) (by omega) (by omega) (by omega) (by omega)
  obtain ⟨A4, hA4⟩ : ∃ A4, (if c = lo then A else A.map (·.add lo)) = A4 := ⟨_, rfl⟩
  rw [hA4] at hcut
  have HC := Lib.hid hcut
  simp only [Int.toNat_natCast]
  clear hlo hhi r1 r2 hcut h
  go_enter Try.func16, Try.ntmps16
  go_wp2_with fail
  refine (refcut_any _ _ _ _).mono ?_
  rintro e w1 ⟨rfl, rfl⟩
  rw [HLO.out.1]
  go_wp2_with fail
  refine (refcut_any _ _ _ _).mono ?_
  rintro e w1 ⟨rfl, rfl⟩
  rw [HLO.out.2]
  go_wp2_with (at_builtin; refine wpList_fresh _ rfl _ _ _ rfl 5 i0 _ Try.underlying22 hi hz0 hz1 hz2 rfl rfl _ _ rfl HC.out (by simp; omega) ?_; intro v' w' hb' hk')
  go_ret
  exact ⟨v', rfl, hb', hk'⟩
set_option maxHeartbeats 1000000 in
theorem byte_none (v : Value) (s : List UInt8) (m : Nat) (i : Int) (w : World) (h : Rp w v s m) (hi : i < 0 ∨ (s.length : Int) ≤ i) : Calls Try.prog 15 #[v, .int .i64 i] w fun e w' => e = .returned (.tuple #[.int .u8 0, .bool false]) ∧ w = w' := by
  have H := Lib.hid (tree_any v s m w h)
  obtain ⟨g, root, rfl, -⟩ := h
  unfold ptr at *
  by_cases h0 : i < 0
  · go_enter Try.func15, Try.ntmps15
    go_wp2_with fail
    refine H.out.mono ?_
    rintro e w1 ⟨⟨p, rfl, h1⟩, rfl⟩
    clear h1
    go_wp2_with fail
    go_ret2
    exact ⟨rfl, rfl⟩
  · have h1 : (s.length : Int) ≤ i := by omega
    clear hi
    go_enter Try.func15, Try.ntmps15
    go_wp2_with fail
    refine H.out.mono ?_
    rintro e w1 ⟨⟨p, rfl, h1⟩, rfl⟩
    have H1 := Lib.hid (len_any _ s w h1)
    clear h1
    go_wp2_with fail
    refine H1.out.mono ?_
    rintro e w1 ⟨rfl, rfl⟩
    go_wp2_with fail
    go_ret2
    exact ⟨rfl, rfl⟩
set_option maxHeartbeats 2000000 in
theorem byte_some (v : Value) (s : List UInt8) (m : Nat) (i : Nat) (c : UInt8) (w : World) (h : Rp w v s m) (hi : s[i]? = some c) (hs : s.length ≤ 100000000000000) : Calls Try.prog 15 #[v, .int .i64 (i : Int)] w fun e w' => e = .returned (.tuple #[bv c, .bool true]) ∧ w = w' := by
  have H := Lib.hid (tree_any v s m w h)
  obtain ⟨g, root, rfl, -⟩ := h
  have hlt := (List.getElem?_eq_some_iff.1 hi).1
  have HI := Lib.hid hi
  clear hi
  have h0 : ¬ (i : Int) < 0 := by omega
  have h1 : ¬ (i : Int) ≥ s.length := by omega
  have hd1 : decide ((i : Int) < 0) = false := by simp
  have hd2 : decide (s.length ≤ i) = false := by simp; omega
  unfold ptr at *
  go_enter Try.func15, Try.ntmps15
  go_wp2_with fail
  refine H.out.mono ?_
  rintro e w1 ⟨⟨p, rfl, h1⟩, rfl⟩
  have H1 := Lib.hid (And.intro h1 (len_any _ s w h1))
  clear h1
  go_wp2_with fail
  refine H1.out.2.mono ?_
  rintro e w1 ⟨rfl, rfl⟩
  go_wp2_with fail
  go_loop [1, 6] (fun a u => ∃ (x : Tr) (k : Nat), a = .int .i64 (k : Int) ∧ At w u x ∧ x.text[k]? = some c ∧ x.text.length ≤ 100000000000000) (fun _ u => hgt w u)
  case atStart =>
    obtain ⟨o, o1, o2, o3⟩ := H1.out.1
    cases o with
    | none => have : s = [] := o3.symm; rw [this] at hlt; simp at hlt
    | some t =>
      have o3 : t.text = s := o3
      exact ⟨t, i, rfl, o1, by rw [o3]; exact HI.out, by rw [o3]; exact hs⟩
  case round =>
    obtain ⟨x, k, rfl, hx, hxc, hxl⟩ := hrel
    cases x with
    | leaf q =>
      have HX := Lib.hid (And.intro hx hxc)
      obtain ⟨kk, rfl, hb⟩ := hx
      obtain ⟨-, -, c2, -⟩ := box6 hb
      have hk : k < q.length := (List.getElem?_eq_some_iff.1 hxc).1
      clear hb hxc hxl
      unfold ptr
      go_wp2_with fail
      refine (isLeaf_leaf _ q w HX.out.1).mono ?_
      rintro e w1 ⟨rfl, rfl⟩
      have y1 : (k : Int) < q.length := by omega
      go_wp2_with fail
      go_ret2
      refine ⟨?_, rfl⟩
      have h3 := HX.out.2
      simp only [Tr.text] at h3
      obtain ⟨h4, h5⟩ := List.getElem?_eq_some_iff.1 h3
      subst h5
      rfl
    | node l r =>
      have HX := Lib.hid (And.intro hx hxc)
      obtain ⟨kk, a, b, rfl, hb, ha, hr⟩ := hx
      obtain ⟨c0, c1, -⟩ := box6 hb
      have hm := Lib.hid (And.intro (hgt_at ha) (hgt_at hr))
      have hm2 := Lib.hid (hgt_at HX.out.1)
      have HA := Lib.hid (And.intro ha hr)
      obtain ⟨ka, _, _, _, rfl, hka⟩ := ha.block
      obtain ⟨kr, _, _, _, rfl, -⟩ := hr.block
      obtain ⟨-, -, -, d3, -⟩ := box6 hka
      simp only [Tr.text, List.length_append] at hxl
      have HXL := Lib.hid hxl
      have z1 : (0 : Int) ≤ (l.text.length : Int) := by omega
      have z2 : (l.text.length : Int) ≤ 100000000000000 := by omega
      have hkk : (k : Int) ≤ 100000000000000 := by have := (List.getElem?_eq_some_iff.1 hxc).1; simp only [Tr.text, List.length_append] at this; omega
      clear hb hxc ha hr hka hxl
      unfold ptr at *
      generalize hn1 : (l.text.length : Int) = n1 at *
      have HE := Lib.hid hn1
      clear hn1
      by_cases hlt2 : (k : Int) < n1
      · go_wp2_with fail
        refine (isLeaf_node _ l r w HX.out.1).mono ?_
        rintro e w1 ⟨rfl, rfl⟩
        go_wp2_with fail
        go_round
        case rel =>
          refine ⟨l, k, rfl, HA.out.1, ?_, by have := HXL.out; omega⟩
          have := HX.out.2
          simp only [Tr.text] at this
          rw [List.getElem?_append_left (by have := HE.out; omega)] at this
          exact this
        case measure => rw [hm2.out]; have := hm.out; simp only [this, Tr.ht]; omega
      · go_wp2_with fail
        refine (isLeaf_node _ l r w HX.out.1).mono ?_
        rintro e w1 ⟨rfl, rfl⟩
        go_wp2_with fail
        go_round
        case rel =>
          refine ⟨r, k - l.text.length, by have := HE.out; rw [show (k : Int) - n1 = ((k - l.text.length : Nat) : Int) from by omega], HA.out.2, ?_, by have := HXL.out; omega⟩
          have := HX.out.2
          simp only [Tr.text] at this
          rw [List.getElem?_append_right (by have := HE.out; omega)] at this
          exact this
        case measure => rw [hm2.out]; have := hm.out; simp only [this, Tr.ht]; omega
end Go.Proofs.Ytdobbindilibjaa
