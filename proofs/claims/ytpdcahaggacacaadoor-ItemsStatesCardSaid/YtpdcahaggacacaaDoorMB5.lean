/-
 What the claim leans on, part 5: A row that is taken from the front and appended to. Conditions: none. The program's further: of each symbol the items behind it. Conditions: none. The symbols behind points: the document's syms. Conditions: none. The program's automaton of items, as1 it lies in memory. Conditions: none. The program's number: a set's, made where there is none. Conditions: none. The program's lead: where a state leads. Conditions: none. The program's lead, whole. Conditions: none. How each name begins: what is meant; rows of rows of bools of one's own. Conditions: none. What stands behind each name: what is meant
-/
import Derived.Test.YtpdcahaggacacaaDoorMB4
import Derived.Test.YtpdcahaggacacaaDoorMB3
set_option linter.unusedSimpArgs false
set_option linter.unusedVariables false
namespace Go.Proofs.YtpdcahaggacacaaDoor.K
open Go Ev
set_option maxRecDepth 100000
set_option maxHeartbeats 4000000

def QRow (lo : Nat) (M : MH) (sz : Nat) (v : MV) (es : List (List MV)) : Prop := Sized sz es ∧ ((v = .nils ∧ es = []) ∨ ∃ id e c, v = .sl id (e * sz) es.length e ∧ M.get id = some (.cs false sz c) ∧ lo ≤ id ∧ id < M.n ∧ At c (e * sz) es.flatten)
theorem QRow.row {lo : Nat} {M : MH} {sz : Nat} {v : MV} {es : List (List MV)} (h : QRow lo M sz v es) : RowAt M sz v es := by
 obtain ⟨hs, h | ⟨id, e, c, h1, h2, h3, h4, h5⟩⟩ := h
 ·exact ⟨hs, .inl h⟩
 ·exact ⟨hs, .inr ⟨id, e * sz, e, false, sz, c, h1, h2, h4, h5⟩⟩
theorem QRow.of {lo : Nat} {M : MH} {sz : Nat} {v : MV} {es : List (List MV)} (h : OwnRow lo M sz v es) : QRow lo M sz v es := by
 obtain ⟨hs, h | ⟨id, c, h1, h2, h3, h4, h5⟩⟩ := h
 ·exact ⟨hs, .inl h⟩
 ·exact ⟨hs, .inr ⟨id, 0, c, by rw [Nat.zero_mul]; exact h1, h2, h3, h4, by rw [Nat.zero_mul]; exact h5⟩⟩
theorem QRow.ext {lo : Nat} {M M' : MH} {sz : Nat} {v : MV} {es : List (List MV)} (h : QRow lo M sz v es) (k : Ext M M') : QRow lo M' sz v es := by
 obtain ⟨hs, h | ⟨id, e, c, h1, h2, h3, h4, h5⟩⟩ := h
 ·exact ⟨hs, .inl h⟩
 ·exact ⟨hs, .inr ⟨id, e, c, h1, (k.old id h4).trans h2, h3, Nat.lt_of_lt_of_le h4 k.n, h5⟩⟩
theorem QRow.id {lo : Nat} {M : MH} {sz : Nat} {v : MV} {es : List (List MV)} (h : QRow lo M sz v es) {a b n d : Nat} (e : v = .sl a b n d) : lo ≤ a ∧ a < M.n := by
 obtain ⟨_, ⟨h1, _⟩ | ⟨id, e', c, h1, h2, h3, h4, _⟩⟩ := h
 ·rw [e] at h1; cases h1
 ·rw [e] at h1
  injection h1 with h1
  subst h1
  exact ⟨h3, h4⟩
theorem QRow.skip {lo : Nat} {M : MH} {sz : Nat} {v : MV} {x : List MV} {es : List (List MV)} (h : QRow lo M sz v (x :: es)) : QRow lo M sz (cutLo sz 1 v) es := by
 obtain ⟨hs, ⟨_, h⟩ | ⟨id, e, c, rfl, h2, h3, h4, h5⟩⟩ := h
 ·cases h
 ·refine ⟨fun y hy => hs y (List.mem_cons_of_mem _ hy), .inr ⟨id, e + 1, c, ?_, h2, h3, h4, ?_⟩⟩
  ·show MV.sl id (e * sz + 1 * sz) ((x :: es).length - 1) (e + 1) = _
   rw [← Nat.add_mul]
   rfl
  ·rw [List.flatten_cons] at h5
   have := h5.right
   rw [hs x List.mem_cons_self] at this
   rw [Nat.add_mul, Nat.one_mul]
   exact this
theorem q_app {lo sz bytes : Nat} {M : MH} {v w : MV} {es ns : List (List MV)} (h : QRow lo M sz v es) (hw : RowAt M sz w ns) (hlo : M.lo ≤ lo) (hln : lo ≤ M.n) (ho : ∀ e ∈ ns, allOne e = true) (hb : (es.length + ns.length) * bytes ≤ 140737488355328) (hl : es.length + ns.length ≤ 9223372036854775807) :
  ∃ v' M', appM M sz bytes v w = some (v', M') ∧ QRow lo M' sz v' (es ++ ns) ∧ M.n ≤ M'.n ∧ M'.lo = M.lo ∧ (∀ j, j < M.n → (∀ a b n d, v = .sl a b n d → a ≠ j) → M'.get j = M.get j) ∧ (∀ j, j < lo → j < M.n → M'.get j = M.get j) ∧ (v' = v ∨ ∃ n, v' = .sl M.n 0 n 0) := by
 have hsrc := src_row hw
 have ho := all_flat ho
 have hz := hw.1
 clear hw
 cases ns with
 | nil =>
  refine ⟨v, M, ?_, ?_, Nat.le_refl _, rfl, fun _ _ _ => rfl, fun _ _ _ => rfl, .inl rfl⟩
  ·unfold appM
   rw [hsrc]
   simp only [ho, cond_true, List.length_nil]
   obtain ⟨hs, ⟨rfl, rfl⟩ | ⟨id, e, c, rfl, h2, h3, h4, h5⟩⟩ := h <;> rfl
  ·rw [List.append_nil]; exact h
 | cons x ns =>
 obtain ⟨hs, ⟨rfl, rfl⟩ | ⟨id, e, c, rfl, h2, h3, h4, h5⟩⟩ := h
 ·refine ⟨.sl M.n 0 (ns.length + 1) 0, M.push (.cs false sz (ofL (x :: ns).flatten 0)), ?_, ?_, Nat.le_succ _, rfl, fun j hj _ => push_old hj, fun j _ hj => push_old hj, .inr ⟨_, rfl⟩⟩
  ·unfold appM
   rw [hsrc]
   simp only [List.length_nil, Nat.zero_add, List.length_cons] at hb hl
   simp only [ho, cond_true, List.length_cons]
   rw [ble_t' hb, ble_t' hl, ble_t' (show M.lo ≤ M.n by omega)]
   rfl
  ·exact .of ⟨hz, .inr ⟨M.n, _, rfl, push_new _, hln, Nat.lt_succ_self _, at_ofL _⟩⟩
 ·have hf := hs.flat
  have hget : Ev.getN c (es.length * sz) (e * sz) = some es.flatten := by rw [← hf]; exact h5.getN
  refine ⟨.sl M.n 0 (es.length + (ns.length + 1)) 0, (M.set id none).push (.cs false sz (appC c (es.length * sz) (e * sz) es.flatten (x :: ns).flatten)), ?_, ?_, Nat.le_succ _, rfl, fun j hj hv => ?_, fun j hj hjn => ?_, .inr ⟨_, rfl⟩⟩
  ·unfold appM
   rw [hsrc]
   simp only [List.length_cons] at hb hl
   simp only [ho, cond_true, List.length_cons]
   rw [ble_t' hb, ble_t' hl, ble_t' (show M.lo ≤ id by omega), blt_t h4]
   simp only [Bool.true_and, h2, beq_self_eq_true, cond_true]
   rw [hget]
  ·refine .of ⟨hs.append hz, .inr ⟨M.n, _, by simp, push_new (M := M.set id none) _, hln, Nat.lt_succ_self _, ?_⟩⟩
   rw [List.flatten_append]
   exact fun j x hj => by rw [Nat.zero_add, appC_get hget, hj]
  ·rw [push_old (by rw [set_n]; exact hj), set_ne (fun e' => hv id _ es.length _ rfl e'.symm)]
  ·rw [push_old (by rw [set_n]; exact hjn), set_ne (by omega)]
theorem row_same {M M' : MH} {sz : Nat} {v : MV} {es : List (List MV)} (h : RowAt M sz v es) (hn : M.n ≤ M'.n) (k : ∀ a b n d, v = .sl a b n d → a < M.n → M'.get a = M.get a) : RowAt M' sz v es := by
 obtain ⟨hs, h | ⟨id, off, e, ro, s, c, h1, h2, h3, h4⟩⟩ := h
 ·exact ⟨hs, .inl h⟩
 ·exact ⟨hs, .inr ⟨id, off, e, ro, s, c, h1, (k _ _ _ _ h1 h3).trans h2, Nat.lt_of_lt_of_le h3 hn, h4⟩⟩
structure DSt (M0 M' : MH) (B : Nat) (out work : List Nat) (vo vw : MV) : Prop where
 ext : Ext M0 M'
 b0 : M0.n ≤ B
 bn : B ≤ M'.n
 ro : RowAt M' 2 vo (ivs out)
 ow : OwnRow B M' 2 vo (ivs out)
 qw : QRow B M' 2 vw (ivs work)
 ap : ∀ a b n d a' b' n' d', vo = .sl a b n d → vw = .sl a' b' n' d' → a ≠ a'
theorem row_idlt {M : MH} {sz : Nat} {v : MV} {es : List (List MV)} (h : RowAt M sz v es) {a b n d : Nat} (e : v = .sl a b n d) : a < M.n := by
 obtain ⟨_, ⟨h1, _⟩ | ⟨id, off, e', ro, s, c, h1, h2, h3, _⟩⟩ := h
 ·rw [e] at h1; cases h1
 ·rw [e] at h1
  injection h1 with h1
  omega
theorem DSt.grow {M0 M1 M2 : MH} {B : Nat} {out work : List Nat} {vo vw : MV} (h : DSt M0 M1 B out work vo vw) (x : Ext M1 M2) : DSt M0 M2 B out work vo vw := ⟨h.ext.trans x, h.b0, Nat.le_trans h.bn x.n, h.ro.ext x, h.ow.ext x, h.qw.ext x, h.ap⟩
theorem DSt.pop {M0 M1 : MH} {B n : Nat} {out work : List Nat} {vo vw : MV} (h : DSt M0 M1 B out (n :: work) vo vw) : DSt M0 M1 B out work vo (cutLo 2 1 vw) := ⟨h.ext, h.b0, h.bn, h.ro, h.ow, h.qw.skip, fun a b n d a' b' n' d' e1 e2 => by
 obtain ⟨_, ⟨_, e⟩ | ⟨id, e, c, rfl, _⟩⟩ := h.qw
 ·cases e
 ·cases e2
  exact h.ap _ _ _ _ _ _ _ _ e1 rfl⟩
theorem DSt.put {M0 M1 M2 : MH} {B : Nat} {out out' work : List Nat} {vo vo' vw : MV} (h : DSt M0 M1 B out work vo vw) (x : Ext M1 M2) (hr : RowAt M2 2 vo' (ivs out')) (ho : (vo' = vo ∧ out' = out) ∨ OwnRow M1.n M2 2 vo' (ivs out')) : DSt M0 M2 B out' work vo' vw := ⟨h.ext.trans x, h.b0, Nat.le_trans h.bn x.n, hr, (by
 rcases ho with ⟨rfl, rfl⟩ | ho
 ·exact h.ow.ext x
 ·exact ho.le h.bn), h.qw.ext x, fun a b n d a' b' n' d' e1 e2 => by
 rcases ho with ⟨rfl, _⟩ | ho
 ·exact h.ap _ _ _ _ _ _ _ _ e1 e2
 ·have := (QRow.of ho).id e1
  have := h.qw.id e2
  omega⟩
theorem DSt.more {M0 M1 : MH} {B p : Nat} {out work : List Nat} {vo vw w : MV} (h : DSt M0 M1 B out work vo vw) (hw : RowAt M1 2 w [itc p]) (hl : work.length ≤ 1000000) (hlo : M1.lo ≤ M0.n) : ∃ v' M', appM M1 2 16 vw w = some (v', M') ∧ DSt M0 M' B out (work ++ [p]) vo v' := by
 have hb0 := h.b0
 have hbn := h.bn
 have hx := h.ext.lo
 have hxn := h.ext.n
 obtain ⟨v', M2, e1, e2, e3, e4, e5, e6, e7⟩ := q_app (bytes := 16) h.qw hw (by omega) hbn (fun e he => by rw [List.mem_singleton.1 he]; rfl) (by rw [ivs_len, List.length_singleton]; omega) (by rw [ivs_len, List.length_singleton]; omega)
 refine ⟨v', M2, e1, ⟨by omega, by rw [e4]; exact hx, fun j hj => (e6 j (by omega) (by omega)).trans (h.ext.old j hj)⟩, hb0, by omega, row_same h.ro e3 fun a b n d ea hlt => e5 a hlt fun a' b' n' d' ea' => fun e => h.ap _ _ _ _ _ _ _ _ ea ea' e.symm, h.ow.keep e3 fun a b n d ea => e5 a ((QRow.of h.ow).id ea).2 fun a' b' n' d' ea' => fun e => h.ap _ _ _ _ _ _ _ _ ea ea' e.symm, by rw [ivs_app]; exact e2, fun a b n d a' b' n' d' ea ea' => ?_⟩
 rcases e7 with rfl | ⟨k, rfl⟩
 ·exact h.ap _ _ _ _ _ _ _ _ ea ea'
 ·injection ea' with ea'
  have := row_idlt h.ro ea
  omega
theorem bsOf_app (l : List Nat) (x : Nat) : bsOf (l ++ [x]) = bsOf l ||| 2 ^ x := by unfold bsOf; rw [List.foldl_append]; rfl
theorem nextN_take {g : Gr} {c : List Nat} {j n : Nat} (h : c[j]? = some n) (s : Int) : nextN g (c.take (j + 1)) s = if behN g n = some s then nextN g (c.take j) s ||| 2 ^ (n + 1) else nextN g (c.take j) s := by
 unfold nextN nextL
 rw [List.take_add_one, h, List.filter_append, List.map_append]
 by_cases e : behN g n = some s
 ·rw [if_pos e]
  simp only [Option.toList_some, List.filter_cons, decide_eq_true e, if_true, List.filter_nil, List.map_cons, List.map_nil]
  exact bsOf_app _ _
 ·rw [if_neg e]
  simp only [Option.toList_some, List.filter_cons, decide_eq_false e, List.filter_nil, List.map_nil, List.append_nil, Bool.false_eq_true, if_false]
def sts (F : List Nat) : List (List MV) := F.map st9
theorem sts_len (F : List Nat) : (sts F).length = F.length := by unfold sts; rw [List.length_map]
theorem sts_at {F : List Nat} {i x : Nat} (h : F[i]? = some x) : (sts F)[i]? = some (st9 x) := by unfold sts; rw [List.getElem?_map, h]; rfl
theorem sts_sized (F : List Nat) : Sized 9 (sts F) := fun e he => by
 obtain ⟨x, _, rfl⟩ := List.mem_map.1 he
 rfl
theorem at_elems {c : T MV} {sz : Nat} : ∀ {es : List (List MV)} {off : Nat}, Sized sz es → (∀ (i : Nat) e, es[i]? = some e → At c (off + i * sz) e) → At c off es.flatten
 | [], off, _, _ => fun j x h => by simp at h
 | e :: es, off, hs, h => fun j x hj => by
  have he := hs e List.mem_cons_self
  rw [List.flatten_cons] at hj
  by_cases hl : j < e.length
  ·rw [List.getElem?_append_left hl] at hj
   have := h 0 e rfl j x hj
   rwa [Nat.zero_mul, Nat.add_zero] at this
  ·rw [List.getElem?_append_right (by omega)] at hj
   have := at_elems (es := es) (off := off + sz) (fun y hy => hs y (List.mem_cons_of_mem _ hy)) (fun i e' hi => by
    have := h (i + 1) e' (by simpa using hi)
    rwa [Nat.succ_mul, show off + (i * sz + sz) = off + sz + i * sz from by omega] at this) (j - e.length) x hj
   rwa [he, show off + sz + (j - sz) = off + j from by omega] at this
theorem sts_set {c c' : T MV} {F : List Nat} {i x : Nat} (h : At c 0 (sts F).flatten) (hi : i < F.length) (h1 : At c' (i * 9) (st9 x)) (h2 : ∀ j, (j < i * 9 ∨ i * 9 + 9 ≤ j) → cget c' j = cget c j) : At c' 0 (sts (F.set i x)).flatten := by
 refine at_elems (sts_sized _) fun k e hk => ?_
 unfold sts at hk
 rw [List.getElem?_map] at hk
 obtain ⟨y, hy, rfl⟩ := Option.map_eq_some_iff.1 hk
 rw [Nat.zero_add]
 rw [List.getElem?_set] at hy
 by_cases e : i = k
 ·subst e
  rw [if_pos rfl, if_pos hi] at hy
  injection hy with hy
  subst hy
  exact h1
 ·rw [if_neg e] at hy
  have := h.elem (sts_sized F) (sts_at hy)
  rw [Nat.zero_add] at this
  intro j z hj
  have hj9 : j < 9 := (List.getElem?_eq_some_iff.1 hj).1
  rw [h2 _ (by omega)]
  exact this j z hj
theorem zrow_st (n : Nat) : zrow [MV.i .u64 0, .i .u64 0, .i .u64 0, .i .u64 0, .i .u64 0, .i .u64 0, .i .u64 0, .i .u64 0, .i .u64 0] n = (sts (List.replicate n 0)).flatten := by
 induction n with
 | zero => rfl
 | succ n ih =>
  rw [zrow_succ, ih]
  rfl
theorem symsA_len (g : Gr) : (symsA g).length = g.kinds.toNat + g.names.toNat := by unfold symsA; rw [List.length_map, List.length_range]
theorem symsA_at {g : Gr} {i : Nat} (h : i < g.kinds.toNat + g.names.toNat) : (symsA g)[i]? = some ((i : Int) - g.kinds) := by
 unfold symsA
 rw [List.getElem?_map, List.getElem?_range h]
 rfl
def furP (g : Gr) (c : List Nat) : List Nat := (symsA g).map (nextN g c)
theorem furP_len (g : Gr) (c : List Nat) : (furP g c).length = g.kinds.toNat + g.names.toNat := by unfold furP; rw [List.length_map, symsA_len]
theorem furP_at {g : Gr} {c : List Nat} {i : Nat} (h : i < g.kinds.toNat + g.names.toNat) : (furP g c)[i]? = some (nextN g c ((i : Int) - g.kinds)) := by
 unfold furP
 rw [List.getElem?_map, symsA_at h]
 rfl
theorem furP_nil (g : Gr) : furP g [] = List.replicate (g.kinds.toNat + g.names.toNat) 0 := by
 unfold furP
 rw [← symsA_len]
 generalize symsA g = l
 induction l with
 | nil => rfl
 | cons x l ih => rw [List.map_cons, ih]; rfl
theorem furP_set {g : Gr} {c : List Nat} {j n i : Nat} (h : c[j]? = some n) (hb : behN g n = some ((i : Int) - g.kinds)) (hi : i < g.kinds.toNat + g.names.toNat) : furP g (c.take (j + 1)) = (furP g (c.take j)).set i (nextN g (c.take j) ((i : Int) - g.kinds) ||| 2 ^ (n + 1)) := List.ext_getElem? fun k => by
 rw [List.getElem?_set, furP_len]
 by_cases hk : k < g.kinds.toNat + g.names.toNat
 ·rw [furP_at hk, furP_at hk, nextN_take h, hb]
  by_cases e : i = k
  ·subst e; rw [if_pos rfl, if_pos rfl, if_pos hi]
  ·rw [if_neg (fun e' => e (by injection e' with e'; omega)), if_neg e]
 ·rw [List.getElem?_eq_none (by rw [furP_len]; omega), List.getElem?_eq_none (by rw [furP_len]; omega)]
  split
  ·omega
  ·rfl
theorem furP_same {g : Gr} {c : List Nat} {j n : Nat} (h : c[j]? = some n) (hb : behN g n = none) : furP g (c.take (j + 1)) = furP g (c.take j) := by
 unfold furP
 refine List.map_congr_left fun s _ => ?_
 rw [nextN_take h, if_neg (fun e => by rw [hb] at e; cases e)]
theorem further_any {M : MH} {g : Gr} {vr vf vc vk : MV} {es : List (List MV)} {N : Nat} (h : GrAt M vr vf vc vk es g) (hz : (formP g).2 = 0) (hN : ∀ n, N.testBit n = true → IsN g n) (hlo : M.lo ≤ M.n) : Cp fns 39 [.ag (gcs g vr vf vc vk), .ag (st9 N)] M fun m M' => Ext M M' ∧ OwnRow M.n M' 9 m (sts (furP g (bitsOf (clsN g fun n => N.testBit n = true) 576))) := by
 have hok := form_ok hz
 have h60 := hok.rl
 have hk0 := hok.k1
 have hk40 := hok.k2
 have hn1 := hok.n1
 have hn40 := hok.n2
 refine Cp_call (fn := F39) (by kernel_rfl) (Nat.le_of_ble_eq_true rfl) ?_
 show Wp fns B39 (T.set q1 (some (.ag (st9 N))) (T.set q0 (some (.ag (gcs g vr vf vc vk))) T.lf)) M _
 unfold B39
 have hU : ∀ N, isU (.ag (st9 N)) = false := fun _ => rfl
 have hcl : ∀ N, MV.cells (.ag (st9 N)) = st9 N := fun _ => rfl
 simp (disch := try exact dz) only [↓bxD, bA, simprocAttr, g_len, hU, hcl, st9_len]
 generalize hM1 : (M.push _).push _ = M1
 obtain ⟨x1, n1, gA, gB⟩ := push2 hM1
 have l1 := x1.lo
 have hG9 : ∀ N, Ev.getN (ofL (st9 N) 0) 9 0 = some (st9 N) := fun N => (at_ofL (st9 N)).getN
 obtain ⟨kn, hkn⟩ : ∃ n : Nat, g.kinds = n := ⟨g.kinds.toNat, by omega⟩
 obtain ⟨nn, hnn⟩ : ∃ n : Nat, g.names = n := ⟨g.names.toNat, by omega⟩
 have w1 : wrapF .i64 (g.kinds + g.names) = ((kn + nn : Nat) : Int) := by rw [wrap_in (by omega) (by omega)]; omega
 simp (disch := try exact dz) only [↓bxD, bA, simprocAttr, gA, g_0', g_1', w1, ev_mks]
 refine bindP_of (mks_ok (M := M1) (n := kn + nn) (by omega) (by omega) (by omega)) ?_
 generalize hM2 : M1.push _ = M2
 have x2 : Ext M1 M2 := by rw [← hM2]; exact .push M1 _
 have n2 : M2.n = M1.n + 1 := by rw [← hM2]; rfl
 have l2 := x2.lo
 have hD : M2.get M1.n = some (.cs false 9 (ofL (sts (List.replicate (kn + nn) 0)).flatten 0)) := by rw [← hM2, push_new, zrow_st]
 have gA2 := (x2.old _ (by omega)).trans gA
 have gB2 := (x2.old _ (by omega)).trans gB
 clear hM2 hM1
 simp (disch := try exact dz) only [↓bxD, bA, simprocAttr, gA2, gB2, g_N, hG9]
 refine bindP_call (closed_any (h.ext (x1.trans x2)) hz hN (by omega)) ?_
 rintro m M3 ⟨x3, W, rfl, hW⟩
 obtain rfl : W = clsN g fun n => N.testBit n = true := hW.ext (clsN_is hok h60 hN)
 have n3 := x3.n
 have l3 := x3.lo
 simp (disch := try exact dz) only [↓bxD, bA, simprocAttr]
 refine bindP_call (list_any ((h.tb.ext (x1.trans x2)).ext x3) (by omega)) ?_
 rintro m M4 ⟨x4, hr4⟩
 have n4 := x4.n
 have l4 := x4.lo
 generalize hc : bitsOf (clsN g fun n => N.testBit n = true) 576 = c at hr4 ⊢
 have hcI : ∀ n ∈ c, IsN g n := fun n hn => by
  rw [← hc, mem_bits] at hn
  exact ((hW.bit n).1 hn.2).is hN
 have hcl : c.length ≤ 576 := by rw [← hc]; exact bitsOf_len _ _
 have hrr := hr4.row
 obtain ⟨s1, s2⟩ := hrr.sl
 rw [ivs_len] at s2
 have gA4 := ((x3.trans x4).old _ (by omega)).trans gA2
 have hD4 := ((x3.trans x4).old _ (by omega)).trans hD
 have x04 := ((x1.trans x2).trans x3).trans x4
 simp (disch := try exact dz) only [↓bxD, bA, simprocAttr, s2]
 refine Wp_inv (σ := Nat) (fun j f M' => j ≤ c.length ∧ Chg (fun k => k = M1.n) M4 M' ∧ X.ev f (.t q2) = .p M.n 0 ∧ X.ev f (.t q5) = .sl M1.n 0 (kn + nn) 0 ∧ X.ev f (.t q19) = m ∧ X.ev f (.t q20) = .i .i64 (c.length : Int) ∧ X.ev f (.t q21) = .i .i64 (j : Int) ∧ ∃ t, M'.get M1.n = some (.cs false 9 t) ∧ At t 0 (sts (furP g (c.take j))).flatten) (fun j => c.length - j) ?_ 0 ?_
 ·rintro j f M5 ⟨hj, hx, k2, k5, k19, k20, k21, t, t1, t2⟩
  simp only [q2, q5, q19, q20, q21] at k2 k5 k19 k20 k21
  have xn := hx.n
  have xl := hx.lo
  have gA5 := (hx.old M.n (by omega) (by omega)).trans gA4
  have xg : Ext M M5 := ⟨by omega, by rw [xl]; exact x04.lo, fun k hk => (hx.old k (by omega) (by omega)).trans (x04.old k hk)⟩
  have hm5 : RowAt M5 2 m (ivs c) := row_same hrr xn fun a b n d e hlt => hx.old a hlt (by have := (QRow.of hr4).id e; omega)
  unfold L39_2
  by_cases hj' : j < c.length
  ·have d0 : decide ((j : Int) < (c.length : Int)) = true := decide_eq_true (by omega)
   obtain ⟨n, hn⟩ : ∃ n, c[j]? = some n := ⟨_, List.getElem?_eq_getElem hj'⟩
   have hnI := hcI n (List.mem_of_getElem? hn)
   have hn549 := hnI.lt hok h60
   obtain ⟨ro, sz, tt, hg, hid, hN2, _, _⟩ := itc_read hm5 hn
   have hst := @i_st n
   have c7 : Ev.getN (setN (itc n) 0 (ofL [.i .i64 0, .i .i64 0] 0)) 2 0 = some (itc n) := (at_setN _ _ _).getN
   have c71 : cget (setN (itc n) 0 (ofL [.i .i64 0, .i .i64 0] 0)) 1 = some (.i .i64 ((n % 9 : Nat) : Int)) := (at_setN _ _ _) 1 _ rfl
   have h71 : hasB (setN (itc n) 0 (ofL [.i .i64 0, .i .i64 0] 0)) 1 1 = true := has_at (at_setN (itc n) 0 _) (by omega) (by show 1 + 1 ≤ 0 + 2; omega)
   have wi : wrapF .i64 ((j : Int) + 1) = ((j + 1 : Nat) : Int) := by rw [wrap_in (by omega) (by omega)]; omega
   simp (disch := try exact dz) only [↓bxD, bA, simprocAttr, k20, k21, d0]
   show Wp fns K39_1 _ _ _
   unfold K39_1
   simp (disch := try exact dz) only [↓bxD, bA, simprocAttr, k2, k19, k21, hg, hN2, c7, gA5, g_N]
   generalize hM6 : (M5.push _).set M5.n _ = M6
   have x6 : Ext M5 M6 := by rw [← hM6]; exact (Ext.push M5 _).set _ (Nat.le_refl _)
   have n6 : M6.n = M5.n + 1 := by rw [← hM6]; rfl
   have l6 := x6.lo
   have g7 : M6.get M5.n = some (.cs false 2 (setN (itc n) 0 (ofL [.i .i64 0, .i .i64 0] 0))) := by rw [← hM6, set_same]
   clear hM6
   refine bindP_call (behind_any (h.ext (xg.trans x6)) hnI (by omega) (by omega)) ?_
   rintro m7 M7 ⟨x7, rfl⟩
   have n7 := x7.n
   have l7 := x7.lo
   have g7' := (x7.old _ (by omega)).trans g7
   have gA7 := ((x6.trans x7).old _ (by omega)).trans gA5
   have t1' := ((x6.trans x7).old _ (by omega)).trans t1
   cases hb : behN g n with
   | none =>
    simp (disch := try exact dz) only [↓bxD, bA, simprocAttr, Option.isSome_none, Option.getD_none]
    show Wp fns K39_0 _ _ _
    unfold K39_0
    simp (disch := try exact dz) only [↓bxD, bA, simprocAttr, k2, k5, k19, k20, k21, wi]
    refine ⟨j + 1, by omega, by omega, hx.trans (.of (x6.trans x7)), rfl, t, t1', ?_⟩
    rw [furP_same hn hb]
    exact t2
   | some s =>
    obtain ⟨hs1, hs2⟩ := beh_kind hok hb
    obtain ⟨i, hi⟩ : ∃ i : Nat, (i : Int) = g.kinds + s := ⟨(g.kinds + s).toNat, by omega⟩
    have hilt : i < kn + nn := by omega
    obtain ⟨ni1, ni2, ni3⟩ := next_item hok hb
    have w2 : wrapF .i64 (((n % 9 : Nat) : Int) + 1) = (((n + 1) % 9 : Nat) : Int) := by rw [wrap_in (by omega) (by omega)]; omega
    have w3 : wrapF .i64 (g.kinds + s) = (i : Int) := by rw [wrap_in (by omega) (by omega)]; omega
    have c8 : Ev.getN (setN [.i .i64 (((n + 1) % 9 : Nat) : Int)] 1 (setN (itc n) 0 (ofL [.i .i64 0, .i .i64 0] 0))) 2 0 = some (itc (n + 1)) := by
     have := ((at_setN (itc n) 0 (ofL [.i .i64 0, .i .i64 0] 0)).set' (k := 1) 1 (.i .i64 (((n + 1) % 9 : Nat) : Int)) (by show 1 < 2; omega) (by omega)).getN
     rw [List.length_set] at this
     refine this.trans ?_
     unfold itc
     rw [ni1]
     rfl
    simp (disch := try exact dz) only [↓bxD, bA, simprocAttr, Option.isSome_some, Option.getD_some, w2, g7', c71]
    generalize hM8 : M7.set M5.n _ = M8
    have g78 : M8.get M5.n = some (.cs false 2 (setN [.i .i64 (((n + 1) % 9 : Nat) : Int)] 1 (setN (itc n) 0 (ofL [.i .i64 0, .i .i64 0] 0)))) := by rw [← hM8, set_same]; rfl
    have n8 : M8.n = M7.n := by rw [← hM8]; rfl
    have l8 : M8.lo = M7.lo := by rw [← hM8]; rfl
    have o8 : ∀ k, k ≠ M5.n → M8.get k = M7.get k := fun k hk => by rw [← hM8]; exact set_ne hk
    clear hM8
    have gA8 := (o8 M.n (by omega)).trans gA7
    have t18 := (o8 M1.n (by omega)).trans t1'
    have hix : ixV 9 (.sl M1.n 0 (kn + nn) 0) (.i .i64 (i : Int)) = some (.p M1.n (i * 9)) := by
     have := ix_slc (s := 9) (id := M1.n) (off := 0) (d := 0) (k := .i64) hilt
     rwa [Nat.zero_add] at this
    refine Wp_dreg_of (by omega) ?_
    simp (disch := try exact dz) only [↓bxD, bA, simprocAttr, k2, k5, gA8, g_1', w3, hix, g78, c8]
    have hFi : (furP g (c.take j))[i]? = some (nextN g (c.take j) ((i : Int) - g.kinds)) := furP_at (by omega)
    have hel := t2.elem (sts_sized _) (sts_at hFi)
    rw [Nat.zero_add] at hel
    refine bindP_call (add_any t18 hel (by omega) (by omega) (by omega) (by omega)) ?_
    rintro m9 M9 ⟨⟨c9, e1, e2, e3⟩, x9⟩
    have n9 := x9.n
    have l9 := x9.lo
    simp (disch := try exact dz) only [↓bxD, bA, simprocAttr]
    show Wp fns K39_0 _ _ _
    show Wp fns K39_0 _ _ _
    unfold K39_0
    simp (disch := try exact dz) only [↓bxD, bA, simprocAttr, k2, k5, k19, k20, k21, wi]
    refine ⟨j + 1, by omega, by omega, ⟨by omega, by omega, fun k hk hne => ?_⟩, rfl, c9, e1, ?_⟩
    ·rw [x9.old k (by omega) hne, o8 k (by omega), (x6.trans x7).old k (by omega)]
     exact hx.old k hk hne
    ·rw [furP_set hn (i := i) (by rw [hb]; congr 1; omega) (by omega)]
     exact sts_set t2 (by rw [furP_len]; omega) e2 e3
  ·have hil : j = c.length := by omega
   subst hil
   have d0 : decide ((c.length : Int) < (c.length : Int)) = false := decide_eq_false (by omega)
   simp (disch := try exact dz) only [↓bxD, bA, simprocAttr, k20, k21, d0]
   show Wp fns K39_3 _ _ _
   unfold K39_3
   simp (disch := try exact dz) only [↓bxD, bA, simprocAttr, k5]
   refine ⟨xg, sts_sized _, .inr ⟨M1.n, t, ?_, t1, by omega, by omega, ?_⟩⟩
   ·rw [sts_len, furP_len]
    congr 1
    omega
   ·rw [List.take_length] at t2
    exact t2
 ·refine ⟨Nat.zero_le _, Chg.refl _ _, by simp only [bA, reduceCtorEq], by simp only [bA, reduceCtorEq], by simp only [bA, reduceCtorEq], by simp only [bA, reduceCtorEq], by simp only [bA, reduceCtorEq] <;> rfl, _, hD4, ?_⟩
  rw [List.take_zero, furP_nil, show g.kinds.toNat + g.names.toNat = kn + nn from by omega]
  exact at_ofL _
def RisZ (l : List Int) : Prop := l.Pairwise (· < ·)
theorem risz_ext : ∀ {a b : List Int}, RisZ a → RisZ b → (∀ n, n ∈ a ↔ n ∈ b) → a = b
 | [], [], _, _, _ => rfl
 | [], y :: b, _, _, h => by have := (h y).2 List.mem_cons_self; simp at this
 | x :: a, [], _, _, h => by have := (h x).1 List.mem_cons_self; simp at this
 | x :: a, y :: b, ha, hb, h => by
  unfold RisZ at ha hb
  rw [List.pairwise_cons] at ha hb
  have hx := (h x).1 List.mem_cons_self
  have hy := (h y).2 List.mem_cons_self
  have e : x = y := by
   rcases List.mem_cons.1 hx with e | e
   ·exact e
   ·rcases List.mem_cons.1 hy with e' | e'
    ·exact e'.symm
    ·have := hb.1 x e; have := ha.1 y e'; omega
  subst e
  rw [risz_ext ha.2 hb.2 fun n => ?_]
  have hn := h n
  simp only [List.mem_cons] at hn
  constructor
  ·intro hm
   have := ha.1 n hm
   rcases hn.1 (.inr hm) with e | e
   ·omega
   ·exact e
  ·intro hm
   have := hb.1 n hm
   rcases hn.2 (.inr hm) with e | e
   ·omega
   ·exact e
def insZ (p : Int) : List Int → List Int
 | [] => [p]
 | q :: r => if q < p then q :: insZ p r else if q = p then q :: r else p :: q :: r
theorem insZ_at (p : Int) : ∀ (l : List Int) (i : Nat), i ≤ l.length → (∀ j q, j < i → l[j]? = some q → q < p) → (∀ q, l[i]? = some q → ¬ q < p) → insZ p l = if l[i]? = some p then l else l.take i ++ p :: l.drop i
 | [], i, hi, _, _ => by
  have : i = 0 := by simpa using hi
  subst this
  simp [insZ]
 | q :: r, 0, _, _, h2 => by
  have := h2 q rfl
  rw [insZ, if_neg this]
  by_cases e : q = p
  ·rw [if_pos e, if_pos (by rw [e]; rfl)]
  ·rw [if_neg e, if_neg (by intro h; exact e (Option.some.inj h))]
   rfl
 | q :: r, i + 1, hi, h1, h2 => by
  have := h1 0 q (by omega) rfl
  rw [insZ, if_pos this]
  have ih := insZ_at p r i (by simpa using hi) (fun j x hj hx => h1 (j + 1) x (by omega) (by rw [List.getElem?_cons_succ]; exact hx)) (fun x hx => h2 x (by rw [List.getElem?_cons_succ]; exact hx))
  rw [ih, List.getElem?_cons_succ, List.take_succ_cons, List.drop_succ_cons]
  split <;> rfl
theorem insZ_mem (p : Int) : ∀ (l : List Int) (x : Int), x ∈ insZ p l ↔ x = p ∨ x ∈ l
 | [], x => by simp [insZ]
 | q :: r, x => by
  unfold insZ
  split
  ·rw [List.mem_cons, insZ_mem p r x, List.mem_cons]
   exact ⟨fun h => h.elim (fun e => .inr (.inl e)) fun h => h.elim .inl fun e => .inr (.inr e), fun h => h.elim (fun e => .inr (.inl e)) fun h => h.elim .inl fun e => .inr (.inr e)⟩
  ·split
   ·rename_i e
    subst e
    exact ⟨.inr, fun h => h.elim (fun e => by rw [e]; exact List.mem_cons_self) id⟩
   ·rw [List.mem_cons]
theorem insZ_ris (p : Int) : ∀ {l : List Int}, RisZ l → RisZ (insZ p l)
 | [], _ => by unfold insZ RisZ; exact List.pairwise_singleton _ _
 | q :: r, h => by
  have h' := h
  unfold RisZ at h'
  rw [List.pairwise_cons] at h'
  unfold insZ
  split
  ·rename_i hqp
   unfold RisZ
   rw [List.pairwise_cons]
   refine ⟨fun x hx => ?_, insZ_ris p h'.2⟩
   rcases (insZ_mem p r x).1 hx with e | e
   ·omega
   ·exact h'.1 x e
  ·split
   ·exact h
   ·unfold RisZ
    rw [List.pairwise_cons]
    refine ⟨fun x hx => ?_, h⟩
    rcases List.mem_cons.1 hx with e | e
    ·omega
    ·have := h'.1 x e; omega
def symsP (g : Gr) (c : List Nat) : List Int := (symsA g).filter fun s => decide (nextN g c s ≠ 0)
theorem risz_all (g : Gr) : RisZ (symsA g) := by
 unfold RisZ symsA
 rw [List.pairwise_map]
 exact (ris_range _).imp fun h => by omega
theorem risz_syms (g : Gr) (c : List Nat) : RisZ (symsP g c) := (risz_all g).filter _
theorem mem_all {g : Gr} (hg : GrOk g) {s : Int} : s ∈ symsA g ↔ -g.kinds ≤ s ∧ s < g.names := by
 have := hg.k1
 have := hg.n1
 unfold symsA
 rw [List.mem_map]
 constructor
 ·rintro ⟨i, hi, rfl⟩
  rw [List.mem_range] at hi
  omega
 ·intro h
  exact ⟨(s + g.kinds).toNat, List.mem_range.2 (by omega), by omega⟩
theorem or_two_ne (a k : Nat) : a ||| 2 ^ k ≠ 0 := fun e => by
 have : (a ||| 2 ^ k).testBit k = false := by rw [e, Nat.zero_testBit]
 rw [Nat.testBit_or, Nat.testBit_two_pow, decide_eq_true rfl, Bool.or_true] at this
 cases this
theorem symsP_nil (g : Gr) : symsP g [] = [] := by
 unfold symsP
 refine List.filter_eq_nil_iff.2 fun s _ => ?_
 show ¬ decide (nextN g [] s ≠ 0) = true
 rw [show nextN g [] s = 0 from rfl]
 simp
theorem symsP_none {g : Gr} {c : List Nat} {j n : Nat} (h : c[j]? = some n) (hb : behN g n = none) : symsP g (c.take (j + 1)) = symsP g (c.take j) := by
 unfold symsP
 refine List.filter_congr fun s _ => ?_
 rw [nextN_take h, if_neg (fun e => by rw [hb] at e; cases e)]
theorem symsP_some {g : Gr} (hg : GrOk g) {c : List Nat} {j n : Nat} {s : Int} (h : c[j]? = some n) (hb : behN g n = some s) : symsP g (c.take (j + 1)) = insZ s (symsP g (c.take j)) := risz_ext (risz_syms _ _) (insZ_ris s (risz_syms _ _)) fun x => by
 rw [insZ_mem]
 unfold symsP
 rw [List.mem_filter, List.mem_filter, decide_eq_true_iff, decide_eq_true_iff, nextN_take h, hb]
 by_cases e : s = x
 ·subst e
  rw [if_pos rfl]
  exact ⟨fun _ => .inl rfl, fun _ => ⟨(mem_all hg).2 (beh_kind hg hb), or_two_ne _ _⟩⟩
 ·rw [if_neg (fun e' => e (Option.some.inj e'))]
  exact ⟨.inr, fun e' => e'.elim (fun e' => absurd e'.symm e) id⟩
theorem symsP_len (g : Gr) (c : List Nat) : (symsP g c).length ≤ g.kinds.toNat + g.names.toNat := by
 unfold symsP
 have := List.length_filter_le (fun s => decide (nextN g c s ≠ 0)) (symsA g)
 rwa [symsA_len] at this
theorem syms_ins {M : MH} {f : Fr} {v : MV} {l : List Int} {s : Int} (hlo : M.lo ≤ M.n) (h : IntRow M v l) (hl : l.length ≤ 1000) (h5 : X.ev f (.t q5) = v) (h7 : X.ev f (.t q7) = .i .i64 s) (Q : Post) (hQ : ∀ f' M' w, X.ev f' (.t q1) = X.ev f (.t q1) → X.ev f' (.t q2) = X.ev f (.t q2) → X.ev f' (.t q6) = X.ev f (.t q6) → X.ev f' (.t q5) = w → Ext M M' → IntRow M' w (insZ s l) → ((w = v ∧ insZ s l = l) ∨ OwnRow M.n M' 1 w (ints (insZ s l))) → Q .norm f' M') : Wp fns K28_3 f M Q := by
 obtain ⟨s1, s2⟩ := h.sl
 simp only [q1, q2, q5, q6, q7] at h5 h7 hQ
 have last : ∀ (i : Nat) (f' : Fr), i ≤ l.length → X.ev f' (.t q1) = X.ev f (.t q1) → X.ev f' (.t q2) = X.ev f (.t q2) → X.ev f' (.t q6) = X.ev f (.t q6) → X.ev f' (.t q5) = v → X.ev f' (.t q7) = .i .i64 s → X.ev f' (.t q9) = .i .i64 (i : Int) → (∀ j q, j < i → l[j]? = some q → q < s) → (∀ q, l[i]? = some q → ¬ q < s) → Wp fns K28_2 f' M Q := by
  intro i f' hi e1 e2 e6 e5 e7 e9 hno hat
  have hins := insZ_at s l i hi hno hat
  simp only [q1, q2, q5, q6, q7, q9] at e1 e2 e5 e6 e7 e9
  have rest : ∀ f', X.ev f' (.t q1) = X.ev f (.t q1) → X.ev f' (.t q2) = X.ev f (.t q2) → X.ev f' (.t q6) = X.ev f (.t q6) → X.ev f' (.t q5) = v → X.ev f' (.t q7) = .i .i64 s → X.ev f' (.t q9) = .i .i64 (i : Int) → l[i]? ≠ some s → Wp fns (.dreg 1 [(⟨some q53, none, .mov (.t q5)⟩, .pu), (⟨some q54, none, .mov (.t q9)⟩, .pu), (⟨some q55, none, .cut 1 (.t q53) none (some (.t q54))⟩, .pu), (⟨some q56, none, .app 1 8 (.c .nils) (.t q55)⟩, .md), (⟨some q57, none, .mov (.t q7)⟩, .pu), (⟨some q58, none, .bsl 1 1 [.i .i64 0] [(0, 1, .t q57)]⟩, .fl 0), (⟨some q59, none, .app 1 8 (.t q56) (.t q58)⟩, .ma [0]), (⟨some q60, none, .mov (.t q5)⟩, .pu), (⟨some q61, none, .mov (.t q9)⟩, .pu), (⟨some q62, none, .cut 1 (.t q60) (some (.t q61)) none⟩, .pu)] [⟨some q63, none, .app 1 8 (.t q59) (.t q62)⟩, ⟨some q5, none, .mov (.t q63)⟩] []) f' M Q := by
   intro f' e1 e2 e6 e5 e7 e9 hne
   rw [if_neg hne] at hins
   simp only [q1, q2, q5, q6, q7, q9] at e1 e2 e5 e6 e7 e9
   have hc1 : cutM 1 v none (some (.i .i64 (i : Int))) = some (cutHi i v) := cutM_hi s1 (by omega)
   have hc2 : cutM 1 v (some (.i .i64 (i : Int))) none = some (cutLo 1 i v) := cutM_lo s1 (by omega)
   refine Wp_dreg_of (by omega) ?_
   simp (disch := try exact dz) only [↓bxD, bA, simprocAttr, e5, e9, hc1, Option.map_some, Option.map_none]
   have hR : RowAt (M.room 1) 1 (cutHi i v) (ints (l.take i)) := int_take (h.ext (.room M 1)) hi
   obtain ⟨w1, M2, a1, a2, a3, a4, a5, a6, _⟩ := app_rowX (bytes := 8) (lo := M.n + 1) (OwnRow.nil _ (M.room 1) 1) hR (by show M.lo ≤ _; omega) (by show M.n + 1 ≤ M.n + 1; omega) (fun e he => by
    unfold ints at he
    obtain ⟨x, _, rfl⟩ := List.mem_map.1 he
    rfl) (by rw [ints_len, List.length_take]; simp only [List.length_nil]; omega) (by rw [ints_len, List.length_take]; simp only [List.length_nil]; omega)
   refine bindP_of a1 ?_
   have ff : fillM [(0, 1, MV.i .i64 s)] [.i .i64 0] = some [.i .i64 s] := rfl
   have ff' : fillM [(0, 1, MV.i .i64 s)] (zrow [.i .i64 0] 1) = some [.i .i64 s] := rfl
   simp (disch := try exact dz) only [↓bxD, bA, simprocAttr, e7, float_bsl, ff, floB_some]
   have hpk : pickL ([] ++ [(M.n, MO.cs false 1 (ofL [.i .i64 s] 0))]) M.n [0] = some [(M.n, MO.cs false 1 (ofL [.i .i64 s] 0))] := by
    simp [pickL]
   simp (disch := try exact dz) only [bA, simprocAttr, hpk, adopt_cons]
   have n2 : M.n + 1 ≤ M2.n := a3
   have l2 : M2.lo = M.lo := a4
   generalize hM3 : M2.set M.n _ = M3
   have g3 : M3.get M.n = some (.cs false 1 (ofL [.i .i64 s] 0)) := by rw [← hM3]; exact set_same _ _
   have n3 : M3.n = M2.n := by rw [← hM3]; rfl
   have l3 : M3.lo = M2.lo := by rw [← hM3]; rfl
   have o3 : ∀ j, j ≠ M.n → M3.get j = M2.get j := fun j hj => by rw [← hM3]; exact set_ne hj
   have w3 : OwnRow (M.n + 1) M3 1 w1 (ints (l.take i)) := OwnRow.keep (by simpa using a2) (by omega) fun a b n d e => by
    obtain ⟨cc, q1, q2, q3⟩ := own_idJ a2 e
    exact o3 a (by omega)
   have r3 : RowAt M3 1 (.sl M.n 0 1 0) [[.i .i64 s]] := ⟨fun e he => by rw [List.mem_singleton.1 he]; rfl, .inr ⟨M.n, 0, 0, false, 1, _, rfl, g3, by omega, at_ofL _⟩⟩
   have hpl : (ints (l.take i)).length = i := by rw [ints_len, List.length_take]; omega
   obtain ⟨w4, M4, b1, b2, b3, b4, b5, b6, _⟩ := app_rowX (bytes := 8) w3 r3 (by omega) (by omega) (fun e he => by
    rw [List.mem_singleton.1 he]; rfl) (by rw [hpl]; simp only [List.length_cons, List.length_nil]; omega) (by rw [hpl]; simp only [List.length_cons, List.length_nil]; omega)
   refine bindP_of b1 ?_
   simp (disch := try exact dz) only [↓bxD, bA, simprocAttr, e5, e9, hc2, Option.map_some, Option.map_none]
   have hlate : ∀ (os : List (Nat × MO)) (l : List (IOper × DK)), os = [(M.n, MO.cs false 1 (ofL [.i .i64 s] 0))] → (l.any fun q => match q.2 with
     | .ma js => js.any fun j => M.n + j == M.n
     | _ => false) = true → lateL l M.n os = [] := fun os l e h => by
    subst e
    unfold lateL
    rw [List.filter_cons, if_neg (fun e => Bool.noConfusion (e.symm.trans (congrArg (fun b => !b) h)))]
    rfl
   rw [hlate _ _ (by simp) (by simp)]
   have n4 : M3.n ≤ M4.n := b3
   have x4 : Ext M M4 := ⟨by omega, by omega, fun j hj => by
    rw [b6 j (by omega) (by omega), o3 j (by omega), a6 j (by omega) (by show j < M.n + 1; omega)]
    rfl⟩
   have r4 : RowAt M4 1 (cutLo 1 i v) (ints (l.drop i)) := int_skip (h.ext x4) hi
   obtain ⟨w5, M5, d1, d2, d3, d4, d5, d6, _⟩ := app_rowX (bytes := 8) b2 r4 (by omega) (by omega) (fun e he => by
    unfold ints at he
    obtain ⟨x, _, rfl⟩ := List.mem_map.1 he
    rfl) (by rw [List.length_append, hpl, ints_len, List.length_drop]; simp only [List.length_cons, List.length_nil]; omega) (by rw [List.length_append, hpl, ints_len, List.length_drop]; simp only [List.length_cons, List.length_nil]; omega)
   refine bindP_of d1 ?_
   simp (disch := try exact dz) only [↓bxD, bA, simprocAttr]
   have hi2 : ints (insZ s l) = ints (l.take i) ++ [[.i .i64 s]] ++ ints (l.drop i) := by
    rw [hins]
    unfold ints
    rw [List.map_append, List.map_cons, List.append_assoc]
    rfl
   refine hQ _ M5 w5 (by simp (disch := try exact dz) only [bA, simprocAttr, e1]) (by simp (disch := try exact dz) only [bA, simprocAttr, e2]) (by simp (disch := try exact dz) only [bA, simprocAttr, e6]) (by simp only [bA, reduceCtorEq, e5]) ⟨by omega, by omega, fun j hj => (d6 j (by omega) (by omega)).trans (x4.old j hj)⟩ ?_ ?_
   ·show RowAt M5 1 w5 (ints (insZ s l))
    rw [hi2]
    exact d2.row
   ·rw [hi2]
    exact .inr (d2.le (by omega))
  unfold K28_2
  by_cases hi' : i < l.length
  ·have d0 : decide ((i : Int) = (l.length : Int)) = false := decide_eq_false (by omega)
   obtain ⟨x, hx1⟩ : ∃ x, l[i]? = some x := ⟨_, List.getElem?_eq_getElem hi'⟩
   obtain ⟨ro, sz, t, g, _, hc⟩ := h.read hx1
   by_cases hxp : x = s
   ·have d1 : decide (x ≠ s) = false := decide_eq_false (fun e => e hxp)
    simp (disch := try exact dz) only [↓bxD, bA, simprocAttr, e5, e7, e9, s2, d0, d1, g, hc]
    have hii : insZ s l = l := by rw [hins, if_pos (by rw [hx1, hxp])]
    refine hQ _ M v (by simp (disch := try exact dz) only [bA, simprocAttr, e1]) (by simp (disch := try exact dz) only [bA, simprocAttr, e2]) (by simp (disch := try exact dz) only [bA, simprocAttr, e6]) (by simp (disch := try exact dz) only [bA, simprocAttr, e5]) (.refl _) ?_ (.inl ⟨rfl, hii⟩)
    rw [hii]
    exact h
   ·have d1 : decide (x ≠ s) = true := decide_eq_true hxp
    simp (disch := try exact dz) only [↓bxD, bA, simprocAttr, e5, e7, e9, s2, d0, d1, g, hc]
    exact rest _ (by simp (disch := try exact dz) only [bA, simprocAttr, e1]) (by simp (disch := try exact dz) only [bA, simprocAttr, e2]) (by simp (disch := try exact dz) only [bA, simprocAttr, e6]) (by simp (disch := try exact dz) only [bA, simprocAttr, e5]) (by simp (disch := try exact dz) only [bA, simprocAttr, e7]) (by simp (disch := try exact dz) only [bA, simprocAttr, e9]) (fun e => hxp (by rw [hx1] at e; exact Option.some.inj e))
  ·have hil : i = l.length := by omega
   have d0 : decide ((i : Int) = (l.length : Int)) = true := decide_eq_true (by omega)
   simp (disch := try exact dz) only [↓bxD, bA, simprocAttr, e5, e9, s2, d0]
   exact rest _ (by simp (disch := try exact dz) only [bA, simprocAttr, e1]) (by simp (disch := try exact dz) only [bA, simprocAttr, e2]) (by simp (disch := try exact dz) only [bA, simprocAttr, e6]) (by simp (disch := try exact dz) only [bA, simprocAttr, e5]) (by simp (disch := try exact dz) only [bA, simprocAttr, e7]) (by simp (disch := try exact dz) only [bA, simprocAttr, e9]) (fun e => by rw [List.getElem?_eq_none (by omega)] at e; cases e)
 unfold K28_3
 simp (disch := try exact dz) only [↓bxD, bA, simprocAttr]
 refine Wp_inv (σ := Nat) (fun i f' M' => M' = M ∧ i ≤ l.length ∧ X.ev f' (.t q1) = X.ev f (.t q1) ∧ X.ev f' (.t q2) = X.ev f (.t q2) ∧ X.ev f' (.t q6) = X.ev f (.t q6) ∧ X.ev f' (.t q5) = v ∧ X.ev f' (.t q7) = .i .i64 s ∧ X.ev f' (.t q9) = .i .i64 (i : Int) ∧ ∀ j q, j < i → l[j]? = some q → q < s) (fun i => l.length - i) ?_ 0 ?_
 ·rintro i f' M' ⟨rfl, hi, e1, e2, e6, e5, e7, e9, hno⟩
  simp only [q1, q2, q5, q6, q7, q9] at e1 e2 e5 e6 e7 e9
  unfold L28_1
  by_cases hi' : i < l.length
  ·have d0 : decide ((i : Int) < (l.length : Int)) = true := decide_eq_true (by omega)
   obtain ⟨x, hx1⟩ : ∃ x, l[i]? = some x := ⟨_, List.getElem?_eq_getElem hi'⟩
   obtain ⟨ro, sz, t, g, _, hc⟩ := h.read hx1
   have wi : wrapF .i64 ((i : Int) + 1) = ((i + 1 : Nat) : Int) := by rw [wrap_in (by omega) (by omega)]; omega
   by_cases hxs : x < s
   ·have d1 : decide (x < s) = true := decide_eq_true hxs
    simp (disch := try exact dz) only [↓bxD, bA, simprocAttr, e5, e7, e9, s2, d0, d1, g, hc]
    show Wp fns K28_0 _ _ _
    unfold K28_0
    simp (disch := try exact dz) only [↓bxD, bA, simprocAttr, e1, e2, e5, e6, e7, e9, wi]
    refine ⟨i + 1, by omega, by omega, rfl, fun j q hj hq => ?_⟩
    by_cases hji : j = i
    ·rw [hji, hx1] at hq; cases hq; exact hxs
    ·exact hno j q (by omega) hq
   ·have d1 : decide (x < s) = false := decide_eq_false hxs
    simp (disch := try exact dz) only [↓bxD, bA, simprocAttr, e5, e7, e9, s2, d0, d1, g, hc]
    exact last i _ hi (by simp (disch := try exact dz) only [bA, simprocAttr, e1]) (by simp (disch := try exact dz) only [bA, simprocAttr, e2]) (by simp (disch := try exact dz) only [bA, simprocAttr, e6]) (by simp (disch := try exact dz) only [bA, simprocAttr, e5]) (by simp (disch := try exact dz) only [bA, simprocAttr, e7]) (by simp (disch := try exact dz) only [bA, simprocAttr, e9]) hno (fun q hq => by rw [hx1] at hq; cases hq; exact hxs)
  ·have d0 : decide ((i : Int) < (l.length : Int)) = false := decide_eq_false (by omega)
   simp (disch := try exact dz) only [↓bxD, bA, simprocAttr, e5, e9, s2, d0]
   exact last i _ hi (by simp (disch := try exact dz) only [bA, simprocAttr, e1]) (by simp (disch := try exact dz) only [bA, simprocAttr, e2]) (by simp (disch := try exact dz) only [bA, simprocAttr, e6]) (by simp (disch := try exact dz) only [bA, simprocAttr, e5]) (by simp (disch := try exact dz) only [bA, simprocAttr, e7]) (by simp (disch := try exact dz) only [bA, simprocAttr, e9]) hno (fun q hq => by rw [List.getElem?_eq_none (by omega)] at hq; cases hq)
 ·exact ⟨rfl, Nat.zero_le _, by simp only [bA, reduceCtorEq], by simp only [bA, reduceCtorEq], by simp only [bA, reduceCtorEq], by simp (disch := try exact dz) only [bA, simprocAttr, h5], by simp (disch := try exact dz) only [bA, simprocAttr, h7], by simp only [bA] <;> rfl, fun j q hj => by omega⟩
theorem syms_any {M : MH} {g : Gr} {vr vf vc vk : MV} {es : List (List MV)} {v : MV} {c : List Nat} (h : GrAt M vr vf vc vk es g) (hz : (formP g).2 = 0) (hv : RowAt M 2 v (ivs c)) (hcI : ∀ n ∈ c, IsN g n) (hcl : c.length ≤ 1000) (hlo : M.lo ≤ M.n) : Cp fns 28 [.ag (gcs g vr vf vc vk), v] M fun m M' => Ext M M' ∧ OwnRow M.n M' 1 m (ints (symsP g c)) := by
 have hok := form_ok hz
 have h60 := hok.rl
 have hk40 := hok.k2
 have hn40 := hok.n2
 obtain ⟨s1, s2⟩ := hv.sl
 rw [ivs_len] at s2
 refine Cp_call (fn := F28) (by kernel_rfl) (Nat.le_of_ble_eq_true rfl) ?_
 show Wp fns B28 (T.set q1 (some v) (T.set q0 (some (.ag (gcs g vr vf vc vk))) T.lf)) M _
 unfold B28
 simp (disch := try exact dz) only [↓bxD, bA, simprocAttr, g_len]
 generalize hM1 : M.push _ = M1
 have x1 : Ext M M1 := by rw [← hM1]; exact .push M _
 have g1 : M1.get M.n = some (.cs false 7 (ofL (gcs g vr vf vc vk) 0)) := by rw [← hM1]; exact push_new _
 have n1 : M1.n = M.n + 1 := by rw [← hM1]; rfl
 have l1 := x1.lo
 clear hM1
 refine Wp_inv (σ := Nat) (fun j f M' => j ≤ c.length ∧ Ext M1 M' ∧ X.ev f (.t q1) = v ∧ X.ev f (.t q2) = .p M.n 0 ∧ X.ev f (.t q6) = .i .i64 (j : Int) ∧ ∃ w, X.ev f (.t q5) = w ∧ OwnRow M.n M' 1 w (ints (symsP g (c.take j)))) (fun j => c.length - j) ?_ 0 ?_
 ·rintro j f M2 ⟨hj, hx, e1, e2, e6, w, e5, hw⟩
  simp only [q1, q2, q5, q6] at e1 e2 e5 e6
  have xn := hx.n
  have xl := hx.lo
  have gA := (hx.old M.n (by omega)).trans g1
  unfold L28_7
  by_cases hj' : j < c.length
  ·have d0 : decide ((j : Int) < (c.length : Int)) = true := decide_eq_true (by omega)
   obtain ⟨n, hn⟩ : ∃ n, c[j]? = some n := ⟨_, List.getElem?_eq_getElem hj'⟩
   have hnI := hcI n (List.mem_of_getElem? hn)
   have hn549 := hnI.lt hok h60
   obtain ⟨ro, sz, tt, hg, hid, hN2, _, _⟩ := itc_read (hv.ext (x1.trans hx)) hn
   have wi : wrapF .i64 ((j : Int) + 1) = ((j + 1 : Nat) : Int) := by rw [wrap_in (by omega) (by omega)]; omega
   simp (disch := try exact dz) only [↓bxD, bA, simprocAttr, e1, e6, s2, d0]
   show Wp fns K28_6 _ _ _
   unfold K28_6
   simp (disch := try exact dz) only [↓bxD, bA, simprocAttr]
   refine Wp_dreg_of (by omega) ?_
   simp (disch := try exact dz) only [↓bxD, bA, simprocAttr, e1, e2, e6, gA, g_N, hg, hN2]
   refine bindP_call (rbehind_any (h.ext (x1.trans hx)) hnI (by omega) h60 (by omega)) ?_
   rintro m3 M3 ⟨x3, z, rfl, hzb⟩
   have n3 := x3.n
   have l3 := x3.lo
   cases hb : behN g n with
   | none =>
    simp (disch := try exact dz) only [↓bxD, bA, simprocAttr, Option.isSome_none]
    show Wp fns (IC.seq _ K28_3) _ _ _
    simp (disch := try exact dz) only [↓bxD, bA, simprocAttr]
    show Wp fns K28_5 _ _ _
    unfold K28_5
    simp (disch := try exact dz) only [↓bxD, bA, simprocAttr, e1, e2, e5, e6, wi]
    refine ⟨j + 1, by omega, by omega, hx.trans x3, rfl, _, rfl, ?_⟩
    rw [symsP_none hn hb]
    exact hw.ext x3
   | some s =>
    obtain rfl := hzb s hb
    have hsl := symsP_len g (c.take j)
    simp (disch := try exact dz) only [↓bxD, bA, simprocAttr, Option.isSome_some]
    show Wp fns (IC.seq _ K28_3) _ _ _
    simp (disch := try exact dz) only [↓bxD, bA, simprocAttr]
    refine syms_ins (by omega) (OwnRow.row (hw.ext x3)) (by omega) (by simp (disch := try exact dz) only [bA, simprocAttr, e5]) (by simp only [bA, reduceCtorEq] <;> rfl) _ ?_
    intro f' M4 w' k1 k2 k6 k5 x4 _ hw4
    simp only [q1, q2, q5, q6] at k1 k2 k5 k6
    have e1' : X.ev f' (.t (Ky.k1 Dg.d1)) = v := k1.trans (by simp (disch := try exact dz) only [bA, simprocAttr, e1])
    have e2' : X.ev f' (.t (Ky.k1 Dg.d2)) = .p M.n 0 := k2.trans (by simp (disch := try exact dz) only [bA, simprocAttr, e2])
    have e6' : X.ev f' (.t (Ky.k1 Dg.d6)) = .i .i64 (j : Int) := k6.trans (by simp (disch := try exact dz) only [bA, simprocAttr, e6])
    simp (disch := try exact dz) only [bA, simprocAttr]
    show Wp fns K28_5 _ _ _
    unfold K28_5
    simp (disch := try exact dz) only [↓bxD, bA, simprocAttr, e1', e2', k5, e6', wi]
    refine ⟨j + 1, by omega, by omega, (hx.trans x3).trans x4, rfl, _, rfl, ?_⟩
    rw [symsP_some hok hn hb]
    rcases hw4 with ⟨rfl, e⟩ | hw4
    ·rw [e]; exact (hw.ext x3).ext x4
    ·exact hw4.le (by omega)
  ·have hjl : j = c.length := by omega
   subst hjl
   rw [List.take_length] at hw
   have d0 : decide ((c.length : Int) < (c.length : Int)) = false := decide_eq_false (by omega)
   simp (disch := try exact dz) only [↓bxD, bA, simprocAttr, e1, e6, s2, d0]
   show Wp fns K28_8 _ _ _
   unfold K28_8
   simp (disch := try exact dz) only [↓bxD, bA, simprocAttr, e5]
   exact ⟨x1.trans hx, hw⟩
 ·refine ⟨Nat.zero_le _, .refl _, by simp only [bA, reduceCtorEq], by simp only [bA, reduceCtorEq], by simp only [bA, reduceCtorEq] <;> rfl, .nils, by simp only [bA, reduceCtorEq], ?_⟩
  rw [List.take_zero, symsP_nil]
  exact OwnRow.nil _ _ _
theorem eqAg_nats : ∀ (a b : List Nat), a.length = b.length → eqAg (a.map fun n : Nat => MV.i .u64 (n : Int)) (b.map fun n : Nat => MV.i .u64 (n : Int)) = some (decide (a = b))
 | [], [], _ => by simp [eqAg_nil]
 | x :: a, y :: b, h => by
  rw [List.map_cons, List.map_cons, eqAg_i, eqAg_nats a b (by simpa using h)]
  by_cases h1 : x = y
  ·subst h1
   simp
  ·have h1' : ((x : Int) == (y : Int)) = false := by rw [beq_eq_false_iff_ne]; omega
   simp [h1, h1']
 | [], _ :: _, h => by simp at h
 | _ :: _, [], h => by simp at h
theorem st9_map (N : Nat) : st9 N = ((List.range 9).map (wd N)).map fun n : Nat => MV.i .u64 (n : Int) := rfl
def Bits (N : Nat) : Prop := ∀ i, N.testBit i = true → i < 576
theorem st9_inj {N N' : Nat} (h : Bits N) (h' : Bits N') (e : (List.range 9).map (wd N) = (List.range 9).map (wd N')) : N = N' := Nat.eq_of_testBit_eq fun i => by
 have hw : ∀ k, k < 9 → wd N k = wd N' k := fun k hk => by
  have := congrArg (fun l : List Nat => l[k]?) e
  simp only [List.getElem?_map, List.getElem?_range hk, Option.map_some, Option.some.injEq] at this
  exact this
 by_cases hi : i < 576
 ·have := congrArg (fun w : Nat => w.testBit (i % 64)) (hw (i / 64) (by omega))
  simp only [wd_bit] at this
  rw [show 64 * (i / 64) + i % 64 = i from by omega, decide_eq_true (by omega), Bool.true_and, Bool.true_and] at this
  exact this
 ·have a : N.testBit i = false := by cases e1 : N.testBit i with | false => rfl | true => exact absurd (h i e1) hi
  have b : N'.testBit i = false := by cases e1 : N'.testBit i with | false => rfl | true => exact absurd (h' i e1) hi
  rw [a, b]
theorem eqAg_st9 {N N' : Nat} (h : Bits N) (h' : Bits N') : eqAg (st9 N) (st9 N') = some (decide (N = N')) := by
 rw [st9_map, st9_map, eqAg_nats _ _ (by simp)]
 congr 1
 rw [decide_eq_decide]
 exact ⟨fun e => st9_inj h h' e, fun e => by rw [e]⟩
def entsA : List Nat → Nat → List (MV × MV × Nat)
 | [], _ => []
 | k :: l, n => (.ag (st9 k), .i .i64 (n : Int), n) :: entsA l (n + 1)
theorem entsA_app : ∀ (l : List Nat) (k n : Nat), entsA (l ++ [k]) n = entsA l n ++ [(.ag (st9 k), .i .i64 ((n + l.length : Nat) : Int), n + l.length)]
 | [], k, n => rfl
 | x :: l, k, n => by
  show _ :: entsA (l ++ [k]) (n + 1) = _ :: (entsA l (n + 1) ++ _)
  rw [entsA_app l k (n + 1), List.length_cons, show n + 1 + l.length = n + (l.length + 1) from by omega]
theorem findA_ents {N : Nat} (h : Bits N) : ∀ (ks : List Nat) (n i : Nat), (∀ k ∈ ks, Bits k) → findA (st9 N) (entsA ks n) i = some (if N ∈ ks then some (i + ks.idxOf N, .i .i64 ((n + ks.idxOf N : Nat) : Int)) else none)
 | [], n, i, _ => rfl
 | k :: ks, n, i, hk => by
  show findA (st9 N) ((.ag (st9 k), .i .i64 (n : Int), n) :: entsA ks (n + 1)) i = _
  rw [findA_cons]
  simp only
  rw [eqAg_st9 h (hk k List.mem_cons_self)]
  by_cases e : N = k
  ·subst e
   rw [decide_eq_true rfl, if_pos List.mem_cons_self, List.idxOf_cons_self]
   rfl
  ·rw [decide_eq_false e]
   simp only
   rw [findA_ents h ks (n + 1) (i + 1) fun x hx => hk x (List.mem_cons_of_mem _ hx)]
   have hi : (k :: ks).idxOf N = ks.idxOf N + 1 := by
    rw [List.idxOf_cons, show (k == N) = false from by rw [beq_eq_false_iff_ne]; exact fun e' => e e'.symm]
    rfl
   by_cases hm : N ∈ ks
   ·rw [if_pos hm, if_pos (List.mem_cons_of_mem _ hm), hi]
    rw [show i + 1 + ks.idxOf N = i + (ks.idxOf N + 1) from by omega, show n + 1 + ks.idxOf N = n + (ks.idxOf N + 1) from by omega]
   ·rw [if_neg hm, if_neg (fun e' => (List.mem_cons.1 e').elim e hm)]
abbrev Acs (gl : List MV) (vk vs : MV) (mid : Nat) : List MV := gl ++ [vk, vs, .m mid]
abbrev Als (ks : List Nat) (els : List (List MV)) : Rws := [none, none, none, none, none, none, none, some (9, sts ks), some (3, els), none]
structure ASt (lo hi : Nat) (M : MH) (p mid : Nat) (gl : List MV) (vk vs : MV) (ks : List Nat) (els : List (List MV)) (done : List StR) : Prop where
 oo : OO lo M p (Acs gl vk vs mid) (Als ks els)
 gl7 : gl.length = 7
 mp : M.get mid = some (.mp (entsA ks 0) ks.length)
 ml : lo ≤ mid ∧ mid < M.n
 len : els.length = ks.length
 bd : ∀ N ∈ ks, Bits N
 dl : done.length ≤ ks.length
 st : ∀ (i : Nat) e N, els[i]? = some e → ks[i]? = some N → ∃ vi v1 v2, e = [vi, v1, v2] ∧ OwnRow lo M 2 vi (ivs (bitsOf N 576)) ∧ (∀ d, done[i]? = some d → OwnRow lo M 1 v1 (ints d.1) ∧ OwnRow lo M 1 v2 (ints (d.2.map Int.ofNat)) ∧ (∀ j, obj v1 = some j ∨ obj v2 = some j → j < hi)) ∧ (done[i]? = none → v1 = .nils ∧ v2 = .nils)
section
variable {lo hi : Nat} {M M' : MH} {p mid : Nat} {gl : List MV} {vk vs : MV} {ks : List Nat} {els : List (List MV)} {done : List StR}
theorem ASt.vk_own (h : ASt lo hi M p mid gl vk vs ks els done) : OwnRow lo M 9 vk (sts ks) ∧ obj vk ≠ some p := h.oo.get (i := 7) rfl (by
 have := h.gl7
 rw [List.getElem?_append_right (by omega), this]; rfl)
theorem ASt.vs_own (h : ASt lo hi M p mid gl vk vs ks els done) : OwnRow lo M 3 vs els ∧ obj vs ≠ some p := h.oo.get (i := 8) rfl (by
 have := h.gl7
 rw [List.getElem?_append_right (by omega), this]; rfl)
theorem ASt.p10 (h : ASt lo hi M p mid gl vk vs ks els done) : ∃ t, M.get p = some (.cs false 10 t) ∧ At t 0 (Acs gl vk vs mid) := by
 have h7 := h.gl7
 obtain ⟨t, a, b⟩ := h.oo.box
 exact ⟨t, by rw [a, List.length_append, h7]; rfl, b⟩
theorem ASt.keep (h : ASt lo hi M p mid gl vk vs ks els done) (hn : M.n ≤ M'.n) (hk : ∀ j, j < M.n → (j < hi ∨ ∀ c, M.get j ≠ some (.cs false 1 c)) → M'.get j = M.get j) : ASt lo hi M' p mid gl vk vs ks els done := by
 obtain ⟨t, p1, _⟩ := h.p10
 have hpl := h.oo.pl
 have sz : ∀ {s : Nat} {v : MV} {es : List (List MV)}, OwnRow lo M s v es → s ≠ 1 → ∀ j, obj v = some j → M'.get j = M.get j := fun ho hs j hj => by
  obtain ⟨_, q2, c, q3⟩ := own_obj ho hj
  exact hk j q2 (.inr fun c' e => by rw [q3] at e; injection e with e; injection e with _ e; exact hs e)
 refine ⟨h.oo.keep hn fun j hj => ?_, h.gl7, (hk mid h.ml.2 (.inr fun c e => by rw [h.mp] at e; injection e with e; cases e)).trans h.mp, ⟨h.ml.1, Nat.lt_of_lt_of_le h.ml.2 hn⟩, h.len, h.bd, h.dl, fun i e N he hN => ?_⟩
 ·rcases hj with rfl | ⟨i, x, v, h1, h2, h3⟩
  ·exact hk j hpl.2 (.inr fun c e => by rw [p1] at e; injection e with e; injection e with _ e; cases e)
  ·obtain ⟨v', k1, k2, _⟩ := h.oo.row i x.1 x.2 h1
   rw [h2] at k1
   injection k1 with k1
   subst k1
   refine sz k2 ?_ j h3
   match i, h1 with
   | 7, h1 => injection h1 with h1; injection h1 with h1; rw [← h1]; exact (by decide : (9 : Nat) ≠ 1)
   | 8, h1 => injection h1 with h1; injection h1 with h1; rw [← h1]; exact (by decide : (3 : Nat) ≠ 1)
   | 0, h1 => cases h1
   | 1, h1 => cases h1
   | 2, h1 => cases h1
   | 3, h1 => cases h1
   | 4, h1 => cases h1
   | 5, h1 => cases h1
   | 6, h1 => cases h1
   | 9, h1 => cases h1
   | n + 10, h1 => simp at h1
 ·obtain ⟨vi, v1, v2, a, b, c, d⟩ := h.st i e N he hN
  refine ⟨vi, v1, v2, a, own_keep b hn (sz b (by decide)), fun dd hd => ?_, d⟩
  obtain ⟨c1, c2, c3⟩ := c dd hd
  exact ⟨own_keep c1 hn fun j hj => hk j (own_obj c1 hj).2.1 (.inl (c3 j (.inl hj))), own_keep c2 hn fun j hj => hk j (own_obj c2 hj).2.1 (.inl (c3 j (.inr hj))), c3⟩
theorem ASt.ext (h : ASt lo hi M p mid gl vk vs ks els done) (x : Ext M M') : ASt lo hi M' p mid gl vk vs ks els done := h.keep x.n fun j hj _ => x.old j hj
def AF (p mid : Nat) (vk vs : MV) (j : Nat) : Prop := j = p ∨ j = mid ∨ obj vk = some j ∨ obj vs = some j
theorem ASt.af_lt (h : ASt lo hi M p mid gl vk vs ks els done) {j : Nat} (hj : AF p mid vk vs j) : lo ≤ j ∧ j < M.n := by
 rcases hj with rfl | rfl | hj | hj
 ·exact h.oo.pl
 ·exact h.ml
 ·obtain ⟨a, b, _⟩ := own_obj h.vk_own.1 hj; exact ⟨a, b⟩
 ·obtain ⟨a, b, _⟩ := own_obj h.vs_own.1 hj; exact ⟨a, b⟩
end
end Go.Proofs.YtpdcahaggacacaaDoor.K
set_option linter.unusedSimpArgs false
set_option linter.unusedVariables false
namespace Go.Proofs.YtpdcahaggacacaaDoor.K
open Go Ev
set_option maxRecDepth 100000
set_option maxHeartbeats 4000000

section
variable {lo hi : Nat} {M : MH} {p mid : Nat} {gl : List MV} {vk vs : MV} {ks : List Nat} {els : List (List MV)} {done : List StR}
theorem rd_ents {N : Nat} (hm : M.get mid = some (.mp (entsA ks 0) ks.length)) (hb : ∀ k ∈ ks, Bits k) (hN : Bits N) : rdF (.lkpA 9 true (.i .i64 0)) M (.m mid) (.ag (st9 N)) = some (if N ∈ ks then .tp [.i .i64 ((ks.idxOf N : Nat) : Int), .b true] else .tp [.i .i64 0, .b false]) := by
 show (bif (st9 N).length == 9 then match M.get mid with
   | some (.mp es _) => match findA (st9 N) es 0 with
    | some (some (_, v)) => some (bif true then MV.tp [v, .b true] else v)
    | some none => some (bif true then MV.tp [.i .i64 0, .b false] else .i .i64 0)
    | none => none
   | _ => none
   else none) = _
 rw [hm]
 simp only [st9_len, beq_self_eq_true, cond_true]
 rw [findA_ents hN ks 0 0 hb]
 by_cases h : N ∈ ks
 ·rw [if_pos h, if_pos h, Nat.zero_add]
 ·rw [if_neg h, if_neg h]
theorem wr_ents {N : Nat} {y : MV} (hm : M.get mid = some (.mp (entsA ks 0) ks.length)) (hb : ∀ k ∈ ks, Bits k) (hN : Bits N) (h : N ∉ ks) (hlo : M.lo ≤ mid) : wrF (.mupA 9) M (.m mid) (.ag (st9 N)) (.i .i64 (ks.length : Int)) = some (.u, M.set mid (some (.mp (entsA (ks ++ [N]) 0) (ks ++ [N]).length))) := by
 show (bif (st9 N).length == 9 && Nat.ble M.lo mid then match M.get mid with
   | some (.mp es ck) => match findA (st9 N) es 0 with
    | some none => some (MV.u, M.set mid (some (.mp (es ++ [(.ag (st9 N), .i .i64 (ks.length : Int), ck)]) (ck + 1))))
    | _ => none
   | _ => none
   else none) = _
 rw [hm, ble_t' hlo]
 simp only [st9_len, beq_self_eq_true, Bool.and_true, cond_true]
 rw [findA_ents hN ks 0 0 hb, if_neg h, entsA_app, Nat.zero_add, List.length_append]
 rfl
theorem acs_at {k : Nat} {v : MV} (h7 : gl.length = 7) (h : [vk, vs, MV.m mid][k]? = some v) : (Acs gl vk vs mid)[7 + k]? = some v := by
 rw [List.getElem?_append_right (by omega), h7, Nat.add_sub_cancel_left, h]
def NumPost (lo hi : Nat) (M : MH) (p mid : Nat) (gl : List MV) (vk vs : MV) (ks : List Nat) (done : List StR) (N : Nat) (m : MV) (M' : MH) : Prop := m = .i .i64 ((ks.idxOf N : Nat) : Int) ∧ M.n ≤ M'.n ∧ M'.lo = M.lo ∧ ∃ vk' vs' els', ASt lo hi M' p mid gl vk' vs' (if N ∈ ks then ks else ks ++ [N]) els' done ∧ (∀ j, j < M.n → ¬ AF p mid vk vs j → M'.get j = M.get j) ∧ (∀ j, obj vk' = some j → obj vk = some j ∨ M.n ≤ j) ∧ (∀ j, obj vs' = some j → obj vs = some j ∨ M.n ≤ j)
theorem numb_any {N : Nat} (h : ASt lo hi M p mid gl vk vs ks els done) (hN : Bits N) (hT : TbAt M) (h0 : 0 < lo) (hlo : M.lo ≤ lo) (hln : lo ≤ M.n) (hk : ks.length ≤ 5000) : Cp fns 25 [.p p 0, .ag (st9 N)] M (NumPost lo hi M p mid gl vk vs ks done N) := by
 have h7 := h.gl7
 have hpl := h.oo.pl
 have hml := h.ml
 refine Cp_call (fn := F25) (by kernel_rfl) (Nat.le_of_ble_eq_true rfl) ?_
 show Wp fns B25 (T.set q1 (some (.ag (st9 N))) (T.set q0 (some (.p p 0)) T.lf)) M _
 unfold B25
 have hU : ∀ N, isU (.ag (st9 N)) = false := fun _ => rfl
 have hcl : ∀ N, MV.cells (.ag (st9 N)) = st9 N := fun _ => rfl
 have hG9 : ∀ N, Ev.getN (ofL (st9 N) 0) 9 0 = some (st9 N) := fun N => (at_ofL (st9 N)).getN
 simp (disch := try exact dz) only [↓bxD, bA, simprocAttr, hU, hcl, st9_len]
 generalize hM1 : M.push _ = M1
 have x1 : Ext M M1 := by rw [← hM1]; exact .push M _
 have g3 : M1.get M.n = some (.cs false 9 (ofL (st9 N) 0)) := by rw [← hM1]; exact push_new _
 have n1 : M1.n = M.n + 1 := by rw [← hM1]; rfl
 have l1 := x1.lo
 clear hM1
 have h1 := h.ext x1
 obtain ⟨t, p1, p2⟩ := h1.p10
 have c7 : cget t 7 = some vk := by have := p2 _ _ (acs_at (vk := vk) (vs := vs) (mid := mid) (k := 0) h7 rfl); simpa using this
 have c8 : cget t 8 = some vs := by have := p2 _ _ (acs_at (vk := vk) (vs := vs) (mid := mid) (k := 1) h7 rfl); simpa using this
 have c9 : cget t 9 = some (.m mid) := by have := p2 _ _ (acs_at (vk := vk) (vs := vs) (mid := mid) (k := 2) h7 rfl); simpa using this
 have hrd := rd_ents h1.mp h1.bd hN
 refine Wp_dreg_of (by omega) ?_
 by_cases hm : N ∈ ks
 ·rw [if_pos hm] at hrd
  simp (disch := try exact dz) only [↓bxD, bA, simprocAttr, p1, c9, g3, hG9, hrd]
  show Wp fns K25_3 _ _ _
  unfold K25_3
  simp (disch := try exact dz) only [↓bxD, bA, simprocAttr]
  show Wp fns K25_2 _ _ _
  unfold K25_2
  simp (disch := try exact dz) only [↓bxD, bA, simprocAttr]
  refine ⟨rfl, by omega, by omega, vk, vs, els, ?_, fun j hj _ => x1.old j hj, fun j hj => .inl hj, fun j hj => .inl hj⟩
  rw [if_pos hm]
  exact h1
 ·rw [if_neg hm] at hrd
  obtain ⟨k1, k2⟩ := h1.vk_own
  obtain ⟨s1, s2⟩ := k1.row.sl
  rw [sts_len] at s2
  simp (disch := try exact dz) only [↓bxD, bA, simprocAttr, p1, c9, g3, hG9, hrd]
  show Wp fns K25_3 _ _ _
  unfold K25_3
  simp (disch := try exact dz) only [↓bxD, bA, simprocAttr, p1, c7, s2]
  refine Wp_dreg_of (by omega) ?_
  have hwr := wr_ents (y := .u) h1.mp h1.bd hN hm (by omega)
  simp (disch := try exact dz) only [↓bxD, bA, simprocAttr, p1, c9, g3, hG9, ev_wrm, hwr]
  show Wp fns K25_1 _ _ _
  have hpm : p ≠ mid := fun e => by have := h1.mp; rw [← e, p1] at this; injection this with this; cases this
  have hrm : ∀ {s : Nat} {v : MV} {es : List (List MV)}, OwnRow lo M1 s v es → obj v ≠ some mid := fun ho e => by
   obtain ⟨_, _, c, hc⟩ := own_obj ho e
   rw [h1.mp] at hc; injection hc with hc; cases hc
  obtain ⟨j1, j2⟩ := h1.vs_own
  generalize hM2 : M1.set mid _ = M2
  have m2 : M2.get mid = some (.mp (entsA (ks ++ [N]) 0) (ks ++ [N]).length) := by rw [← hM2]; exact set_same _ _
  have n2 : M2.n = M1.n := by rw [← hM2]; rfl
  have l2 : M2.lo = M1.lo := by rw [← hM2]; rfl
  have o2 : ∀ j, j ≠ mid → M2.get j = M1.get j := fun j hj => by rw [← hM2]; exact set_ne hj
  clear hM2
  have oo2 : OO lo M2 p (Acs gl vk vs mid) (Als ks els) := h1.oo.keep (by omega) fun j hj => o2 j fun e => by
   subst e
   rcases hj with e | ⟨i, x, v, a, b, c⟩
   ·exact hpm e.symm
   ·obtain ⟨v', q1, q2, _⟩ := h1.oo.row i x.1 x.2 a
    rw [b] at q1
    injection q1 with q1
    subst q1
    exact hrm q2 c
  have p12 := (o2 p hpm).trans p1
  have g32 := (o2 M.n (by omega)).trans g3
  obtain ⟨w7, M3, t3, a1, a2, a3, a4, a5, a6, a7, a8, oo3⟩ := oo2.app (i := 7) (bytes := 72) (sz := 9) (es := sts ks) (x := st9 N) rfl (acs_at (k := 0) h7 rfl) (by omega) (by omega) rfl rfl (by rw [sts_len]; omega) (by rw [sts_len]; omega)
  have hcs : (Acs gl vk vs mid).length = 10 := by rw [List.length_append, h7]; rfl
  rw [hcs] at a4 oo3
  unfold K25_1
  simp (disch := try exact dz) only [↓bxD, bA, simprocAttr]
  refine Wp_dreg_of (by omega) ?_
  have ff : fillM [(0, 9, MV.ag (st9 N))] [.i .u64 0, .i .u64 0, .i .u64 0, .i .u64 0, .i .u64 0, .i .u64 0, .i .u64 0, .i .u64 0, .i .u64 0] = some (st9 N) := rfl
  have hpu : pushV M2.lift (.sl M2.n 0 1 0) (.cs false 9 (ofL (st9 N) 0)) = some (.sl M2.n 0 1 0, M2.lift.push (.cs false 9 (ofL (st9 N) 0))) := push_ok (Nat.le_refl _)
  have hdn : ∀ o, (M2.lift.push o).down M2.lo = M2.push o := fun _ => rfl
  have hst1 : ∀ {v : MV}, isSl v = true → stOk 1 v = true := fun {v} hv => by
   unfold stOk
   rw [isSl_cells hv, isSl_isU hv]
   simp only [all_cons, all_nil, isSl_one hv]
   rfl
  have w7s := hst1 a2
  have w7c := isSl_cells a2
  simp (disch := try exact dz) only [↓bxD, bA, simprocAttr, p12, c7, g32, hG9, ff, hpu, hdn]
  refine bindP_of a1 ?_
  simp (disch := try exact dz) only [↓bxD, bA, simprocAttr, a4, w7c, hdn]
  generalize hM4 : M3.set p _ = M4 at oo3 ⊢
  have n4 : M4.n = M3.n := by rw [← hM4]; rfl
  have l4 : M4.lo = M3.lo := by rw [← hM4]; rfl
  have o4 : ∀ j, j ≠ p → M4.get j = M3.get j := fun j hj => by rw [← hM4]; exact set_ne hj
  clear hM4
  have fr4 : ∀ j, j < M1.n → j ≠ p → j ≠ mid → obj vk ≠ some j → M4.get j = M1.get j := fun j hj e1 e2 e3 => by
   rw [o4 j e1, a8 j (by omega) e3, o2 j e2]
  have hvk : ∀ j, obj vk = some j → lo ≤ j ∧ j < M.n := fun j e => by obtain ⟨a, b, _⟩ := own_obj h.vk_own.1 e; exact ⟨a, b⟩
  have hvs : ∀ j, obj vs = some j → lo ≤ j ∧ j < M.n := fun j e => by obtain ⟨a, b, _⟩ := own_obj h.vs_own.1 e; exact ⟨a, b⟩
  have gt4 : ∀ j, j < M1.n → (j < lo ∨ M.n ≤ j) → M4.get j = M1.get j := fun j hj hd => fr4 j hj (by omega) (by omega) (fun e => by have := hvk j e; omega)
  have g34 := (gt4 M.n (by omega) (.inr (Nat.le_refl _))).trans g3
  have hT4 : TbAt M4 := ⟨(gt4 0 (by omega) (.inl h0)).trans (hT.ext x1).1, by omega⟩
  obtain ⟨t4, b4, b5⟩ := oo3.box
  have hcs7 : ((Acs gl vk vs mid).set 7 w7).length = 10 := by rw [List.length_set, hcs]
  rw [hcs7] at b4
  have d8 : cget t4 8 = some vs := by
   have := b5 8 vs (by rw [List.getElem?_set, if_neg (by decide)]; exact acs_at (k := 1) h7 rfl)
   simpa using this
  show Wp fns K25_0 _ _ _
  unfold K25_0
  simp (disch := try exact dz) only [bA, simprocAttr]
  refine Wp_dreg_of (by omega) ?_
  simp (disch := try exact dz) only [↓bxD, bA, simprocAttr, b4, d8, g34, hG9]
  refine bindP_call (list_any (N := N) (M := M4.lift) hT4 (Nat.le_refl _)) ?_
  rintro m5 M5 ⟨x5, hr5⟩
  have x45 := ext_dl x5
  have n5 := x45.n
  have l5 := x45.lo
  have hr5' : OwnRow M4.n (M5.down M4.lo) 2 m5 (ivs (bitsOf N 576)) := hr5
  obtain ⟨m51, m52⟩ := hr5'.row.sl
  have ff3 : fillM [(0, 1, m5)] [.nils, .nils, .nils] = some [m5, .nils, .nils] := by cases m5 <;> first | rfl | cases m51
  have ff4 : fillM [(0, 3, MV.ag [m5, .nils, .nils])] [.nils, .nils, .nils] = some [m5, .nils, .nils] := by cases m5 <;> first | rfl | cases m51
  have hpu6 : pushV (M5.down M4.lo).lift (.sl M5.n 0 1 0) (.cs false 3 (ofL [m5, .nils, .nils] 0)) = some (.sl M5.n 0 1 0, (M5.down M4.lo).lift.push (.cs false 3 (ofL [m5, .nils, .nils] 0))) := push_ok (Nat.le_refl _)
  have hdn6 : ∀ o, ((M5.down M4.lo).lift.push o).down M4.lo = (M5.down M4.lo).push o := fun _ => rfl
  obtain ⟨w8, M7, t7, e1, e2, e3, e4, e5, e6, e7, e8, oo7⟩ := (oo3.ext x45).app (i := 8) (bytes := 72) (sz := 3) (es := els) (x := [m5, .nils, .nils]) rfl (v := vs) (by rw [List.getElem?_set, if_neg (by decide)]; exact acs_at (k := 1) h7 rfl) (by omega) (by omega) rfl (by cases m5 <;> first | rfl | cases m51) (by have := h.len; omega) (by have := h.len; omega)
  rw [hcs7] at e4 oo7
  have w8s := hst1 e2
  have w8c := isSl_cells e2
  simp (disch := try exact dz) only [↓bxD, bA, simprocAttr, ff3, ff4, hpu6, hdn6]
  refine bindP_of e1 ?_
  simp (disch := try exact dz) only [↓bxD, bA, simprocAttr, e4, w8c, hdn6]
  generalize hM8 : M7.set p _ = M8 at oo7 ⊢
  have n8 : M8.n = M7.n := by rw [← hM8]; rfl
  have l8 : M8.lo = M7.lo := by rw [← hM8]; rfl
  have o8 : ∀ j, j ≠ p → M8.get j = M7.get j := fun j hj => by rw [← hM8]; exact set_ne hj
  clear hM8
  have hdn5 : (M5.down M4.lo).n = M5.n := rfl
  have hdl5 : (M5.down M4.lo).lo = M4.lo := rfl
  have fr8 : ∀ j, j < M1.n → j ≠ p → j ≠ mid → obj vk ≠ some j → obj vs ≠ some j → M8.get j = M1.get j := fun j hj e1 e2 e3 e4 => by
   rw [o8 j e1, e8 j (by omega) e4, x45.old j (by omega), fr4 j hj e1 e2 e3]
  show Wp fns K25_2 _ _ _
  unfold K25_2
  simp (disch := try exact dz) only [↓bxD, bA, simprocAttr]
  have hix : ks.idxOf N = ks.length := List.idxOf_eq_length hm
  have hca : ((Acs gl vk vs mid).set 7 w7).set 8 w8 = Acs gl w7 w8 mid := by
   show ((gl ++ [vk, vs, .m mid]).set 7 w7).set 8 w8 = gl ++ [w7, w8, .m mid]
   rw [List.set_append_right _ _ (by omega), List.set_append_right _ _ (by omega), h7]
   rfl
  have hla : ((Als ks els).set 7 (some (9, sts ks ++ [st9 N]))).set 8 (some (3, els ++ [[m5, .nils, .nils]])) = Als (ks ++ [N]) (els ++ [[m5, .nils, .nils]]) := by
   show [none, none, none, none, none, none, none, some (9, sts ks ++ [st9 N]), some (3, els ++ [[m5, .nils, .nils]]), none] = [none, none, none, none, none, none, none, some (9, sts (ks ++ [N])), some (3, els ++ [[m5, .nils, .nils]]), none]
   rw [show sts (ks ++ [N]) = sts ks ++ [st9 N] from by unfold sts; rw [List.map_append]; rfl]
  rw [hca, hla] at oo7
  have ksl : (ks ++ [N]).length = ks.length + 1 := by rw [List.length_append]; rfl
  have hle := h1.len
  have szk : ∀ {s : Nat} {v : MV} {es : List (List MV)}, OwnRow lo M1 s v es → s ≤ 2 → OwnRow lo M8 s v es := fun ho hs => own_keep ho (by omega) fun j hj => by
   obtain ⟨_, q2, c, q3⟩ := own_obj ho hj
   refine fr8 j q2 (fun e => ?_) (fun e => ?_) (fun e => ?_) (fun e => ?_)
   ·rw [e, p1] at q3; injection q3 with q3; injection q3 with _ q3; omega
   ·rw [e, h1.mp] at q3; injection q3 with q3; cases q3
   ·obtain ⟨_, _, c', q4⟩ := own_obj k1 e; rw [q4] at q3; injection q3 with q3; injection q3 with _ q3; omega
   ·obtain ⟨_, _, c', q4⟩ := own_obj j1 e; rw [q4] at q3; injection q3 with q3; injection q3 with _ q3; omega
  refine ⟨by rw [hix], by omega, by omega, w7, w8, els ++ [[m5, .nils, .nils]], ?_, fun j hj hna => ?_, fun j hj => ?_, fun j hj => ?_⟩
  ·rw [if_neg hm]
   refine ⟨oo7, h7, ?_, ⟨hml.1, by omega⟩, by rw [List.length_append, ksl, hle]; rfl, fun x hx => (List.mem_append.1 hx).elim (h1.bd x) fun e => by rw [List.mem_singleton.1 e]; exact hN, by have := h1.dl; omega, fun i e x he hx => ?_⟩
   ·rw [o8 mid hpm.symm, e8 mid (by omega) (fun e => hrm j1 e), x45.old mid (by omega), o4 mid hpm.symm, a8 mid (by omega) (fun e => hrm k1 e)]
    exact m2
   ·by_cases hi : i < ks.length
    ·rw [List.getElem?_append_left (by omega)] at he
     rw [List.getElem?_append_left hi] at hx
     obtain ⟨vi, v1, v2, q1, q2, q3, q4⟩ := h1.st i e x he hx
     exact ⟨vi, v1, v2, q1, szk q2 (by omega), fun d hd => by
      obtain ⟨r1, r2, r3⟩ := q3 d hd
      exact ⟨szk r1 (by omega), szk r2 (by omega), r3⟩, q4⟩
    ·have hi2 := (List.getElem?_eq_some_iff.1 hx).1
     have hie : i = ks.length := by omega
     subst hie
     rw [List.getElem?_append_right (by omega), hle, Nat.sub_self] at he
     rw [List.getElem?_append_right (Nat.le_refl _), Nat.sub_self] at hx
     injection he with he
     injection hx with hx
     subst he hx
     refine ⟨m5, .nils, .nils, rfl, (own_keep hr5' (by omega) fun j hj => ?_).le (by omega), fun d hd => ?_, fun _ => ⟨rfl, rfl⟩⟩
     ·obtain ⟨r1, r2, _⟩ := own_obj hr5' hj
      rw [o8 j (by omega), e8 j r2 (fun e => by have := hvs j e; omega)]
     ·have := (List.getElem?_eq_some_iff.1 hd).1
      have := h1.dl
      omega
  ·exact (fr8 j (by omega) (fun e => hna (.inl e)) (fun e => hna (.inr (.inl e))) (fun e => hna (.inr (.inr (.inl e)))) (fun e => hna (.inr (.inr (.inr e))))).trans (x1.old j hj)
  ·rw [a3] at hj
   injection hj with hj
   exact .inr (by omega)
  ·rw [e3] at hj
   injection hj with hj
   exact .inr (by omega)
end
end Go.Proofs.YtpdcahaggacacaaDoor.K
set_option linter.unusedSimpArgs false
set_option linter.unusedVariables false
namespace Go.Proofs.YtpdcahaggacacaaDoor.K
open Go Ev
set_option maxRecDepth 100000
set_option maxHeartbeats 4000000

section
variable {lo : Nat} {M M' : MH} {p : Nat} {cs : List MV} {L : Rws}
theorem OO.putE (h : OO lo M p cs L) {i sz : Nat} {es : List (List MV)} (e : L[i]? = some (some (sz, es))) {v : MV} (hv : cs[i]? = some v) (hne : 0 < es.length) :
  ∃ id c, v = .sl id 0 es.length 0 ∧ M.get id = some (.cs false sz c) ∧ lo ≤ id ∧ id < M.n ∧ (∀ k o, k < es.length → o < sz → hasB c 1 (k * sz + o) = true) ∧ ∀ k o x a, es[k]? = some a → o < sz → OO lo (M.set id (some (.cs false sz (setN [x] (k * sz + o) c)))) p cs (L.set i (some (sz, es.set k (a.set o x)))) := by
 obtain ⟨ho, hp⟩ := h.get e hv
 obtain ⟨hs, ⟨_, rfl⟩ | ⟨id, c, rfl, h1, h2, h3, h4⟩⟩ := ho
 ·simp at hne
 ·have hfl : es.flatten.length = es.length * sz := Sized.flat hs
  refine ⟨id, c, rfl, h1, h2, h3, fun k o hk ho => has_at h4 (Nat.zero_le _) ?_, fun k o x a hk ho => ?_⟩
  ·rw [hfl, Nat.zero_add]
   have : k * sz + sz ≤ es.length * sz := by rw [← Nat.succ_mul]; exact Nat.mul_le_mul_right _ hk
   omega
  ·have hid : id ≠ p := fun e' => hp (by rw [e']; rfl)
   obtain ⟨t, b1, b2⟩ := h.box
   have hpl := h.pl
   refine ⟨⟨t, by rw [set_ne (Ne.symm hid)]; exact b1, b2⟩, ⟨hpl.1, by rw [set_n]; exact hpl.2⟩, fun j s2 es' hj => ?_, fun a b x' y' w1 w2 id' hab ha hb c1 c2 d1 => ?_⟩
   ·rcases set_ls hj with ⟨rfl, hj'⟩ | ⟨hji, hj⟩
    ·injection hj' with hj'
     injection hj' with hj1 hj2
     subst hj1 hj2
     exact ⟨_, hv, ⟨hs.set k (by rw [List.length_set]; exact hs a (List.mem_of_getElem? hk)), .inr ⟨id, _, by rw [List.length_set], set_same _ _, h2, by rw [set_n]; exact h3, h4.elem_set hs hk ho rfl⟩⟩, hp⟩
    ·obtain ⟨w, k1, k2, k3⟩ := h.row j s2 es' hj
     refine ⟨w, k1, own_keep k2 (by rw [set_n]; exact Nat.le_refl _) fun q hq => ?_, k3⟩
     refine set_ne fun e' => ?_
     subst e'
     exact h.apart j i _ _ _ _ _ hji hj e k1 hv hq rfl
   ·rcases set_ls ha with ⟨ea, _⟩ | ⟨_, ha'⟩ <;> rcases set_ls hb with ⟨eb, _⟩ | ⟨_, hb'⟩
    ·exact absurd (ea.trans eb.symm) hab
    ·subst ea; exact h.apart _ _ _ _ _ _ _ hab e hb' c1 c2 d1
    ·subst eb; exact h.apart _ _ _ _ _ _ _ hab ha' e c1 c2 d1
    ·exact h.apart _ _ _ _ _ _ _ hab ha' hb' c1 c2 d1
end
theorem step_zero {g : Gr} {c : List Nat} {a : Acc} {s : Int} (h : nextN g c s = 0) : stepS g c a s = a := by unfold stepS; rw [if_pos h]
theorem step_one {g : Gr} {c : List Nat} {a : Acc} {s : Int} (h : nextN g c s ≠ 0) : stepS g c a s = ⟨a.syms ++ [s], a.to ++ [a.ks.idxOf (nextN g c s)], if nextN g c s ∈ a.ks then a.ks else a.ks ++ [nextN g c s]⟩ := by unfold stepS; rw [if_neg h]
def accI (g : Gr) (c ks : List Nat) (i : Nat) : Acc := ((symsA g).take i).foldl (stepS g c) ⟨[], [], ks⟩
theorem accI_succ {g : Gr} {c ks : List Nat} {i : Nat} (h : i < g.kinds.toNat + g.names.toNat) : accI g c ks (i + 1) = stepS g c (accI g c ks i) ((i : Int) - g.kinds) := by
 unfold accI
 rw [List.take_add_one, symsA_at h, List.foldl_append]
 rfl
theorem accI_all {g : Gr} {c ks : List Nat} : accI g c ks (g.kinds.toNat + g.names.toNat) = leadP g c ks := by
 unfold accI leadP
 rw [← symsA_len, List.take_length]
theorem accI_len {g : Gr} {c ks : List Nat} : ∀ i, i ≤ g.kinds.toNat + g.names.toNat → (accI g c ks i).syms.length ≤ i ∧ (accI g c ks i).to.length = (accI g c ks i).syms.length ∧ (accI g c ks i).ks.length ≤ ks.length + i
 | 0, _ => ⟨Nat.le_refl _, rfl, Nat.le_refl _⟩
 | i + 1, h => by
  obtain ⟨a, b, d⟩ := accI_len (g := g) (c := c) (ks := ks) i (by omega)
  rw [accI_succ (by omega)]
  by_cases e : nextN g c ((i : Int) - g.kinds) = 0
  ·rw [step_zero e]; exact ⟨by omega, b, by omega⟩
  ·rw [step_one e]
   refine ⟨by simp only [List.length_append, List.length_cons, List.length_nil]; omega, by simp only [List.length_append, List.length_cons, List.length_nil]; omega, ?_⟩
   show (if _ then _ else _ : List Nat).length ≤ _
   split
   ·omega
   ·simp only [List.length_append, List.length_cons, List.length_nil]; omega
theorem next_bits {g : Gr} (hg : GrOk g) (h60 : g.rules.length ≤ 60) {c : List Nat} {s : Int} : Bits (nextN g c s) := fun i hi => by
 unfold nextN at hi
 rw [bs_bit, decide_eq_true_iff] at hi
 have := (next_is hg hi).lt hg h60
 omega
theorem bits_zero : Bits 0 := fun i hi => by rw [Nat.zero_testBit] at hi; cases hi
def intsN (l : List Nat) : List (List MV) := ints (l.map Int.ofNat)
theorem intsN_len (l : List Nat) : (intsN l).length = l.length := by unfold intsN; rw [ints_len, List.length_map]
theorem intsN_app (l : List Nat) (x : Nat) : intsN (l ++ [x]) = intsN l ++ [[.i .i64 (x : Int)]] := by unfold intsN ints; rw [List.map_append, List.map_append]; rfl
theorem ints_app1 (l : List Int) (x : Int) : ints (l ++ [x]) = ints l ++ [[.i .i64 x]] := by unfold ints; rw [List.map_append]; rfl
structure LSt (lo hi : Nat) (M M' : MH) (p mid : Nat) (gl : List MV) (vk vs : MV) (done : List StR) (F : List Nat) (m v4 v5 vk' vs' : MV) (els : List (List MV)) (a : Acc) : Prop where
 st : ASt lo hi M' p mid gl vk' vs' a.ks els done
 r4 : OwnRow M.n M' 1 v4 (ints a.syms)
 r5 : OwnRow M.n M' 1 v5 (intsN a.to)
 ap : ∀ j, obj v4 = some j → obj v5 ≠ some j
 fr : OwnRow M.n M' 9 m (sts F)
 fa : ∀ j, obj m = some j → ¬ AF p mid vk' vs' j
 n : M.n ≤ M'.n
 l : M'.lo = M.lo
 old : ∀ j, j < M.n → ¬ AF p mid vk vs j → M'.get j = M.get j
 ok : ∀ j, obj vk' = some j → obj vk = some j ∨ M.n ≤ j
 os : ∀ j, obj vs' = some j → obj vs = some j ∨ M.n ≤ j
section
variable {lo hi : Nat} {M M1 M2 : MH} {p mid : Nat} {gl : List MV} {vk vs : MV} {done : List StR} {F : List Nat} {m v4 v5 vk' vs' : MV} {els : List (List MV)} {a : Acc}
theorem LSt.grow (h : LSt lo hi M M1 p mid gl vk vs done F m v4 v5 vk' vs' els a) (x : Ext M1 M2) : LSt lo hi M M2 p mid gl vk vs done F m v4 v5 vk' vs' els a := ⟨h.st.ext x, h.r4.ext x, h.r5.ext x, h.ap, h.fr.ext x, h.fa, Nat.le_trans h.n x.n, x.lo.trans h.l, fun j hj hn => (x.old j (Nat.lt_of_lt_of_le hj h.n)).trans (h.old j hj hn), h.ok, h.os⟩
theorem LSt.sym (h : LSt lo hi M M1 p mid gl vk vs done F m v4 v5 vk' vs' els a) (hlo : M.lo ≤ M.n) (hhi : hi ≤ M.n) {s : Int} (hl : a.syms.length ≤ 10000) : ∃ w M2, appM (M1.push (.cs false 1 (ofL [.i .i64 s] 0))) 1 8 v4 (.sl M1.n 0 1 0) = some (w, M2) ∧ LSt lo hi M M2 p mid gl vk vs done F m w v5 vk' vs' els ⟨a.syms ++ [s], a.to, a.ks⟩ ∧ ∀ j, j < M1.n → (∀ c, M1.get j ≠ some (.cs false 1 c)) → M2.get j = M1.get j := by
 have hn := h.n
 have hl' := h.l
 obtain ⟨w, M2, e1, e2, e3, e4, e5, e6, e7⟩ := app_obj (bytes := 8) (e := [.i .i64 s]) h.r4 (by omega) hn rfl rfl (by rw [ints_len]; omega) (by rw [ints_len]; omega)
 have ne : ∀ {sz : Nat} {v : MV} {es : List (List MV)} {l : Nat}, OwnRow l M1 sz v es → sz ≠ 1 → ∀ j, obj v = some j → obj v4 ≠ some j := fun ho hs j hj e => by
  obtain ⟨_, _, c, q⟩ := own_obj ho hj
  obtain ⟨_, _, c', q'⟩ := own_obj h.r4 e
  rw [q] at q'
  injection q' with q'
  injection q' with _ q'
  exact hs q'
 refine ⟨w, M2, e1, ⟨h.st.keep (by omega) fun j hj hd => e7 j hj fun e => ?_, by rw [ints_app1]; exact e2, own_keep h.r5 (by omega) fun j hj => e7 j (own_obj h.r5 hj).2.1 (fun e => h.ap j e hj), fun j hj e => ?_, own_keep h.fr (by omega) fun j hj => e7 j (own_obj h.fr hj).2.1 (ne h.fr (by decide) j hj), h.fa, by omega, by omega, fun j hj hna => (e7 j (by omega) fun e => ?_).trans (h.old j hj hna), h.ok, h.os⟩, fun j hj hc => e7 j hj fun e => by obtain ⟨_, _, c, q⟩ := own_obj h.r4 e; exact hc c q⟩
 ·obtain ⟨q1, _, c, q⟩ := own_obj h.r4 e
  rcases hd with hd | hd
  ·omega
  ·exact hd c q
 ·rw [e5] at hj
  injection hj with hj
  have := (own_obj h.r5 e).2.1
  omega
 ·have := (own_obj h.r4 e).1
  omega
theorem LSt.too (h : LSt lo hi M M1 p mid gl vk vs done F m v4 v5 vk' vs' els a) (hlo : M.lo ≤ M.n) (hhi : hi ≤ M.n) {s : Nat} (hl : a.to.length ≤ 10000) : ∃ w M2, appM (M1.push (.cs false 1 (ofL [.i .i64 (s : Int)] 0))) 1 8 v5 (.sl M1.n 0 1 0) = some (w, M2) ∧ LSt lo hi M M2 p mid gl vk vs done F m v4 w vk' vs' els ⟨a.syms, a.to ++ [s], a.ks⟩ := by
 have hn := h.n
 have hl' := h.l
 obtain ⟨w, M2, e1, e2, e3, e4, e5, e6, e7⟩ := app_obj (bytes := 8) (e := [.i .i64 (s : Int)]) h.r5 (by omega) hn rfl rfl (by rw [intsN_len]; omega) (by rw [intsN_len]; omega)
 have ne : ∀ {sz : Nat} {v : MV} {es : List (List MV)} {l : Nat}, OwnRow l M1 sz v es → sz ≠ 1 → ∀ j, obj v = some j → obj v5 ≠ some j := fun ho hs j hj e => by
  obtain ⟨_, _, c, q⟩ := own_obj ho hj
  obtain ⟨_, _, c', q'⟩ := own_obj h.r5 e
  rw [q] at q'
  injection q' with q'
  injection q' with _ q'
  exact hs q'
 refine ⟨w, M2, e1, ⟨h.st.keep (by omega) fun j hj hd => e7 j hj fun e => ?_, own_keep h.r4 (by omega) fun j hj => e7 j (own_obj h.r4 hj).2.1 (fun e => h.ap j hj e), by rw [intsN_app]; exact e2, fun j hj e => ?_, own_keep h.fr (by omega) fun j hj => e7 j (own_obj h.fr hj).2.1 (ne h.fr (by decide) j hj), h.fa, by omega, by omega, fun j hj hna => (e7 j (by omega) fun e => ?_).trans (h.old j hj hna), h.ok, h.os⟩⟩
 ·obtain ⟨q1, _, c, q⟩ := own_obj h.r5 e
  rcases hd with hd | hd
  ·omega
  ·exact hd c q
 ·rw [e5] at e
  injection e with e
  have := (own_obj h.r4 hj).2.1
  omega
 ·have := (own_obj h.r5 e).1
  omega
theorem LSt.num (h : LSt lo hi M M1 p mid gl vk vs done F m v4 v5 vk' vs' els a) {N : Nat} {r : MV} (k : NumPost lo hi M1 p mid gl vk' vs' a.ks done N r M2) : ∃ vk2 vs2 els2, LSt lo hi M M2 p mid gl vk vs done F m v4 v5 vk2 vs2 els2 ⟨a.syms, a.to, if N ∈ a.ks then a.ks else a.ks ++ [N]⟩ := by
 obtain ⟨_, k1, k2, vk2, vs2, els2, k3, k4, k5, k6⟩ := k
 have hn := h.n
 have small : ∀ {sz : Nat} {v : MV} {es : List (List MV)} {l : Nat}, OwnRow l M1 sz v es → sz = 1 → ∀ j, obj v = some j → ¬ AF p mid vk' vs' j := fun ho hs j hj e => by
  obtain ⟨_, _, c, q⟩ := own_obj ho hj
  subst hs
  rcases e with rfl | rfl | e | e
  ·obtain ⟨t, q', _⟩ := h.st.p10
   rw [q] at q'; injection q' with q'; injection q' with _ q'; cases q'
  ·have q' := h.st.mp
   rw [q] at q'; injection q' with q'; cases q'
  ·obtain ⟨_, _, c', q'⟩ := own_obj h.st.vk_own.1 e
   rw [q] at q'; injection q' with q'; injection q' with _ q'; cases q'
  ·obtain ⟨_, _, c', q'⟩ := own_obj h.st.vs_own.1 e
   rw [q] at q'; injection q' with q'; injection q' with _ q'; cases q'
 refine ⟨vk2, vs2, els2, ⟨k3, own_keep h.r4 k1 fun j hj => k4 j (own_obj h.r4 hj).2.1 (small h.r4 rfl j hj), own_keep h.r5 k1 fun j hj => k4 j (own_obj h.r5 hj).2.1 (small h.r5 rfl j hj), h.ap, own_keep h.fr k1 fun j hj => k4 j (own_obj h.fr hj).2.1 (h.fa j hj), fun j hj e => ?_, by omega, k2.trans h.l, fun j hj hna => (k4 j (by omega) fun e => hna ?_).trans (h.old j hj hna), fun j hj => ?_, fun j hj => ?_⟩⟩
 ·have hjl := (own_obj h.fr hj).2.1
  rcases e with e | e | e | e
  ·exact h.fa j hj (.inl e)
  ·exact h.fa j hj (.inr (.inl e))
  ·rcases k5 j e with e | e
   ·exact h.fa j hj (.inr (.inr (.inl e)))
   ·omega
  ·rcases k6 j e with e | e
   ·exact h.fa j hj (.inr (.inr (.inr e)))
   ·omega
 ·rcases e with e | e | e | e
  ·exact .inl e
  ·exact .inr (.inl e)
  ·rcases h.ok j e with e | e
   ·exact .inr (.inr (.inl e))
   ·omega
  ·rcases h.os j e with e | e
   ·exact .inr (.inr (.inr e))
   ·omega
 ·rcases k5 j hj with e | e
  ·exact h.ok j e
  ·exact .inr (by omega)
 ·rcases k6 j hj with e | e
  ·exact h.os j e
  ·exact .inr (by omega)
end
end Go.Proofs.YtpdcahaggacacaaDoor.K
set_option linter.unusedSimpArgs false
set_option linter.unusedVariables false
namespace Go.Proofs.YtpdcahaggacacaaDoor.K
open Go Ev
set_option maxRecDepth 100000
set_option maxHeartbeats 4000000

section
variable {lo hi : Nat} {M : MH} {p mid : Nat} {g : Gr} {vr vf vc vg vk vs : MV} {es : List (List MV)} {ks : List Nat} {els : List (List MV)} {done : List StR}
def LeadPost (lo : Nat) (M : MH) (p mid : Nat) (gl : List MV) (vk vs : MV) (done : List StR) (a : Acc) (M' : MH) : Prop := M.n ≤ M'.n ∧ M'.lo = M.lo ∧ ∃ vk' vs' els', ASt lo M'.n M' p mid gl vk' vs' a.ks els' (done ++ [(a.syms, a.to)]) ∧ (∀ j, j < M.n → ¬ AF p mid vk vs j → M'.get j = M.get j) ∧ (∀ j, obj vk' = some j → obj vk = some j ∨ M.n ≤ j) ∧ (∀ j, obj vs' = some j → obj vs = some j ∨ M.n ≤ j)
theorem lead_any {n N : Nat} (h : ASt lo hi M p mid (gcs g vr vf vc vg) vk vs ks els done) (hg : GrAt M vr vf vc vg es g) (hz : (formP g).2 = 0) (hhi : hi ≤ M.n) (h0 : 0 < lo) (hlo : M.lo ≤ lo) (hln : lo ≤ M.n) (hk : ks.length ≤ 2000) (hdn : done.length = n) (hN : ks[n]? = some N) (hNI : ∀ b, N.testBit b = true → IsN g b) : Cp fns 26 [.p p 0, .i .i64 (n : Int)] M fun _ M' => LeadPost lo M p mid (gcs g vr vf vc vg) vk vs done (leadP g (bitsOf (clsN g fun b => N.testBit b = true) 576) ks) M' := by
 have hok := form_ok hz
 have h60 := hok.rl
 have hk0 := hok.k1
 have hk40 := hok.k2
 have hn1 := hok.n1
 have hn40 := hok.n2
 have h7 := h.gl7
 have hpl := h.oo.pl
 have hml := h.ml
 have hnl := (List.getElem?_eq_some_iff.1 hN).1
 obtain ⟨t, p1, p2⟩ := h.p10
 obtain ⟨k1, k2⟩ := h.vk_own
 obtain ⟨s1, s2⟩ := k1.row.sl
 rw [sts_len] at s2
 obtain ⟨ro, sz, tt, hgt, hid, hC⟩ := k1.row.read (sts_at hN)
 have hN9 : Ev.getN tt 9 (soff vk + n * 9) = some (st9 N) := hC.getN
 have c7 : cget t 7 = some vk := by have := p2 _ _ (acs_at (vk := vk) (vs := vs) (mid := mid) (k := 0) h7 rfl); simpa using this
 have hG7 : Ev.getN t 7 0 = some (gcs g vr vf vc vg) := (At.left p2).getN
 refine Cp_call (fn := F26) (by kernel_rfl) (Nat.le_of_ble_eq_true rfl) ?_
 show Wp fns B26 (T.set q1 (some (.i .i64 (n : Int))) (T.set q0 (some (.p p 0)) T.lf)) M _
 unfold B26
 simp (disch := try exact dz) only [↓bxD, bA, simprocAttr]
 refine Wp_dreg_of (by omega) ?_
 simp (disch := try exact dz) only [↓bxD, bA, simprocAttr, p1, c7, hG7, hgt, hN9]
 refine bindP_call (further_any hg hz hNI (by omega)) ?_
 rintro m M1 ⟨x1, hF⟩
 generalize hc : bitsOf (clsN g fun b => N.testBit b = true) 576 = c at hF ⊢
 obtain ⟨f1, f2⟩ := hF.row.sl
 rw [sts_len, furP_len] at f2
 have n1 := x1.n
 have l1 := x1.lo
 simp (disch := try exact dz) only [↓bxD, bA, simprocAttr, f2]
 show Wp fns (IC.seq (IC.block 0 (IC.loop L26_2)) K26_3) _ _ _
 obtain ⟨L, hL⟩ : ∃ L, L = g.kinds.toNat + g.names.toNat := ⟨_, rfl⟩
 rw [← hL] at f2 ⊢
 have afT : ∀ j, j < lo → ¬ AF p mid vk vs j := fun j hj e => by have := (h.af_lt e).1; omega
 have hL1 : LSt lo hi M M1 p mid (gcs g vr vf vc vg) vk vs done (furP g c) m .nils .nils vk vs els (accI g c ks 0) := ⟨h.ext x1, OwnRow.nil _ _ _, OwnRow.nil _ _ _, fun j e => (by cases e), hF, fun j hj e => (by have := (own_obj hF hj).1; have := (h.af_lt e).2; omega), n1, l1, fun j hj _ => x1.old j hj, fun j hj => .inl hj, fun j hj => .inl hj⟩
 simp (disch := try exact dz) only [↓bxD, simprocAttr]
 refine Wp_inv (σ := Nat) (fun i f M' => i ≤ L ∧ X.ev f (.t q0) = .p p 0 ∧ X.ev f (.t q1) = .i .i64 (n : Int) ∧ X.ev f (.t q19) = m ∧ X.ev f (.t q20) = .i .i64 (L : Int) ∧ X.ev f (.t q21) = .i .i64 (i : Int) ∧ ∃ v4 v5 vk' vs' els', X.ev f (.t q4) = v4 ∧ X.ev f (.t q5) = v5 ∧ LSt lo hi M M' p mid (gcs g vr vf vc vg) vk vs done (furP g c) m v4 v5 vk' vs' els' (accI g c ks i)) (fun i => L - i) ?_ 0 ?_
 ·rintro i f M2 ⟨hi2, e0, e1, e19, e20, e21, v4, v5, vk2, vs2, els2, e4, e5, hS⟩
  simp only [q0, q1, q4, q5, q19, q20, q21] at e0 e1 e4 e5 e19 e20 e21
  have sn := hS.n
  have sl := hS.l
  unfold L26_2
  by_cases hi' : i < L
  ·have d0 : decide ((i : Int) < (L : Int)) = true := decide_eq_true (by omega)
   obtain ⟨al1, al2, al3⟩ := accI_len (g := g) (c := c) (ks := ks) i (by omega)
   have hFi : (furP g c)[i]? = some (nextN g c ((i : Int) - g.kinds)) := furP_at (by omega)
   have hacc := accI_succ (g := g) (c := c) (ks := ks) (i := i) (by omega)
   have hbits : Bits (nextN g c ((i : Int) - g.kinds)) := next_bits hok h60
   generalize hNi : nextN g c ((i : Int) - g.kinds) = Ni at hFi hbits
   obtain ⟨ro, sz, tt, hgt, hid, hC⟩ := hS.fr.row.read (sts_at hFi)
   have hN9 : Ev.getN tt 9 (soff m + i * 9) = some (st9 Ni) := hC.getN
   have hst : stOk 9 (.ag (st9 Ni)) = true := rfl
   have hcW : MV.cells (.ag (st9 Ni)) = st9 Ni := rfl
   have c7 : ∀ t, Ev.getN (setN (st9 Ni) 0 t) 9 0 = some (st9 Ni) := fun t => (at_setN _ _ _).getN
   have ffz : fillM [] [.i .u64 0, .i .u64 0, .i .u64 0, .i .u64 0, .i .u64 0, .i .u64 0, .i .u64 0, .i .u64 0, .i .u64 0] = some (st9 0) := rfl
   have dq : puM (.eqA 9 true) (.ag (st9 Ni)) (.ag (st9 0)) = some (.b (!decide (Ni = 0))) := by
    rw [puM_eqA, eqAg_st9 hbits bits_zero, st9_len]
    rfl
   have wi : wrapF .i64 ((i : Int) + 1) = ((i + 1 : Nat) : Int) := by rw [wrap_in (by omega) (by omega)]; omega
   obtain ⟨t2, b1, b2⟩ := hS.st.p10
   have cK : cget t2 1 = some (.i .i64 g.kinds) := b2 1 _ rfl
   have w2 : wrapF .i64 ((i : Int) - g.kinds) = (i : Int) - g.kinds := wrap_in (by omega) (by omega)
   have hT2 : TbAt M2 := ⟨(hS.old 0 (by omega) (afT 0 h0)).trans hg.tb.1, by omega⟩
   by_cases hz0 : Ni = 0
   ·have d1 : decide (¬ Ni = 0) = false := decide_eq_false (fun e => e hz0)
    simp (disch := try exact dz) only [↓bxD, bA, simprocAttr, e20, e21, d0]
    show Wp fns K26_1 _ _ _
    unfold K26_1
    simp (disch := try exact dz) only [↓bxD, bA, simprocAttr, e19, e21, hgt, hN9, hcW, c7, ffz, dq, d1]
    generalize hM3 : (M2.push _).set M2.n _ = M3
    have x3 : Ext M2 M3 := by rw [← hM3]; exact (Ext.push M2 _).set _ (Nat.le_refl _)
    clear hM3
    show Wp fns K26_0 _ _ _
    unfold K26_0
    simp (disch := try exact dz) only [↓bxD, bA, simprocAttr, e0, e1, e4, e5, e19, e20, e21, wi]
    refine ⟨i + 1, by omega, by omega, rfl, v4, v5, vk2, vs2, els2, rfl, rfl, ?_⟩
    rw [hacc, step_zero (by rw [hNi]; exact hz0)]
    exact hS.grow x3
   ·have d1 : decide (¬ Ni = 0) = true := decide_eq_true hz0
    have ff1 : fillM [(0, 1, MV.i .i64 ((i : Int) - g.kinds))] [.i .i64 0] = some [.i .i64 ((i : Int) - g.kinds)] := rfl
    simp (disch := try exact dz) only [↓bxD, bA, simprocAttr, e20, e21, d0]
    show Wp fns K26_1 _ _ _
    unfold K26_1
    simp (disch := try exact dz) only [↓bxD, bA, simprocAttr, e0, e4, e19, e21, hgt, hN9, hcW, c7, ffz, dq, d1, b1, cK, w2, ff1]
    generalize hM3 : (M2.push _).set M2.n _ = M3
    have x3 : Ext M2 M3 := by rw [← hM3]; exact (Ext.push M2 _).set _ (Nat.le_refl _)
    have n3 : M3.n = M2.n + 1 := by rw [← hM3]; rfl
    have g7 : ∃ t, M3.get M2.n = some (.cs false 9 t) ∧ Ev.getN t 9 0 = some (st9 Ni) := ⟨_, by rw [← hM3]; exact set_same _ _, c7 _⟩
    clear hM3
    obtain ⟨t7, g71, g72⟩ := g7
    have hS3 := hS.grow x3
    have l3 := x3.lo
    rw [← n3]
    obtain ⟨w4, M4, a1, hS4, a2⟩ := hS3.sym (s := (i : Int) - g.kinds) (by omega) hhi (by omega)
    refine bindP_of a1 ?_
    have g74 := (a2 M2.n (by omega) (fun c e => by rw [g71] at e; injection e with e; injection e with _ e; cases e)).trans g71
    have sn4 := hS4.n
    have sl4 := hS4.l
    have hT4 : TbAt M4 := ⟨(hS4.old 0 (by omega) (afT 0 h0)).trans hg.tb.1, by omega⟩
    simp (disch := try exact dz) only [↓bxD, bA, simprocAttr, e0, e5, g74, g72]
    refine bindP_call (numb_any hS4.st hbits hT4 h0 (by omega) (by omega) (by show (accI g c ks i).ks.length ≤ 5000; omega)) ?_
    rintro r M5 hnp
    obtain ⟨vk5, vs5, els5, hS5⟩ := hS4.num hnp
    obtain ⟨rfl, _⟩ := hnp
    have sn5 := hS5.n
    have sl5 := hS5.l
    have ff2 : fillM [(0, 1, MV.i .i64 (((accI g c ks i).ks.idxOf Ni : Nat) : Int))] [.i .i64 0] = some [.i .i64 (((accI g c ks i).ks.idxOf Ni : Nat) : Int)] := rfl
    simp (disch := try exact dz) only [↓bxD, bA, simprocAttr, ff2]
    obtain ⟨w5, M6, d1, hS6⟩ := hS5.too (s := (accI g c ks i).ks.idxOf Ni) (by omega) hhi (by show (accI g c ks i).to.length ≤ 10000; omega)
    refine bindP_of d1 ?_
    simp (disch := try exact dz) only [↓bxD, bA, simprocAttr]
    show Wp fns K26_0 _ _ _
    unfold K26_0
    simp (disch := try exact dz) only [↓bxD, bA, simprocAttr, e0, e1, e19, e20, e21, wi]
    refine ⟨i + 1, by omega, by omega, rfl, w4, w5, vk5, vs5, els5, rfl, rfl, ?_⟩
    rw [hacc, step_one (by rw [hNi]; exact hz0), hNi]
    exact hS6
  ·have hiL : i = L := by omega
   subst hiL
   have d0 : decide ((i : Int) < (i : Int)) = false := decide_eq_false (by omega)
   rw [hL, accI_all] at hS
   simp (disch := try exact dz) only [↓bxD, bA, simprocAttr, e20, e21, d0]
   have hpre : ks <+: (leadP g c ks).ks := steps_pre g c (symsA g) ⟨[], [], ks⟩
   generalize leadP g c ks = a at hS hpre ⊢
   have hA := hS.st
   have hkl := hpre.length_le
   have hel := hA.len
   obtain ⟨N', hN'⟩ : ∃ N', a.ks[n]? = some N' := ⟨_, List.getElem?_eq_getElem (by omega)⟩
   obtain ⟨e', he'⟩ : ∃ e, els2[n]? = some e := ⟨_, List.getElem?_eq_getElem (by omega)⟩
   obtain ⟨vi, v1, v2, q1, q2, _, q4⟩ := hA.st n e' N' he' hN'
   obtain ⟨rfl, rfl⟩ := q4 (List.getElem?_eq_none (by omega))
   subst q1
   obtain ⟨t2, b1, b2⟩ := hA.p10
   have c8 : cget t2 8 = some vs2 := by have := b2 _ _ (acs_at (vk := vk2) (vs := vs2) (mid := mid) (k := 1) h7 rfl); simpa using this
   obtain ⟨id, cc, rfl, r1, r2, r3, r4, r5⟩ := hA.oo.putE (i := 8) (sz := 3) (es := els2) rfl (acs_at (k := 1) h7 rfl) (by omega)
   have hB1 := r5 n 1 v4 _ he' (by omega)
   have hb1 := r4 n 1 (by omega) (by omega)
   have hb2 := r4 n 2 (by omega) (by omega)
   have hb2' : hasB (setN [v4] (n * 3 + 1) cc) 1 (n * 3 + 2) = true := has_setN _ _ _ _ hb2
   have hst1 : ∀ {v : MV}, isSl v = true → stOk 1 v = true := fun {v} hv => by
    unfold stOk
    rw [isSl_cells hv, isSl_isU hv]
    simp only [all_cons, all_nil, isSl_one hv]
    rfl
   have i4 := hS.r4.row.sl.1
   have i5 := hS.r5.row.sl.1
   have w4s := hst1 i4
   have w4c := isSl_cells i4
   have w5s := hst1 i5
   have w5c := isSl_cells i5
   have hnl2 : n < els2.length := by omega
   unfold K26_3
   refine Wp_dreg_of (by omega) ?_
   simp (disch := try exact dz) only [↓bxD, bA, simprocAttr, e0, e1, e4, e5, b1, c8, ix_slc, r1, w4c, w5c]
   refine ⟨_, rfl, ?_⟩
   obtain ⟨id', cc', q1, q3, _, _, _, q5⟩ := hB1.putE (i := 8) (sz := 3) (es := els2.set n ([vi, .nils, .nils].set 1 v4)) rfl (acs_at (k := 1) h7 rfl) (by rw [List.length_set]; omega)
   injection q1 with q1
   subst q1
   rw [set_same] at q3
   injection q3 with q3
   injection q3 with _ _ q3
   subst q3
   have hB2 := q5 n 2 v5 ([vi, .nils, .nils].set 1 v4) (by rw [List.getElem?_set, if_pos rfl, if_pos hnl2]) (by omega)
   have hes : (els2.set n ([vi, .nils, .nils].set 1 v4)).set n (([vi, MV.nils, .nils].set 1 v4).set 2 v5) = els2.set n [vi, v4, v5] := by rw [List.set_set]; rfl
   rw [hes] at hB2
   have hB3 : OO lo ((M2.set id (some (MO.cs false 3 (setN [v4] (n * 3 + 1) cc)))).set id (some (MO.cs false 3 (setN [v5] (n * 3 + 2) (setN [v4] (n * 3 + 1) cc))))) p (Acs (gcs g vr vf vc vg) vk2 (.sl id 0 els2.length 0) mid) (Als a.ks (els2.set n [vi, v4, v5])) := hB2
   generalize hM8 : (M2.set id (some (MO.cs false 3 (setN [v4] (n * 3 + 1) cc)))).set id (some (MO.cs false 3 (setN [v5] (n * 3 + 2) (setN [v4] (n * 3 + 1) cc)))) = M8 at hB3 ⊢
   have n8 : M8.n = M2.n := by rw [← hM8]; rfl
   have l8 : M8.lo = M2.lo := by rw [← hM8]; rfl
   have o8 : ∀ j, j ≠ id → M8.get j = M2.get j := fun j hj => by rw [← hM8, set_ne hj, set_ne hj]
   clear hM8
   have szk : ∀ {s : Nat} {lo' : Nat} {v : MV} {es : List (List MV)}, OwnRow lo' M2 s v es → s ≠ 3 → OwnRow lo' M8 s v es := fun ho hs => own_keep ho (by omega) fun j hj => o8 j fun e => by
    obtain ⟨_, _, c', q⟩ := own_obj ho hj
    rw [e, r1] at q
    injection q with q
    injection q with _ q
    exact hs q.symm
   refine ⟨by omega, by omega, vk2, .sl id 0 els2.length 0, els2.set n [vi, v4, v5], ⟨hB3, h7, (o8 mid fun e => ?_).trans hA.mp, ⟨hml.1, by omega⟩, by rw [List.length_set]; exact hel, hA.bd, by rw [List.length_append]; simp only [List.length_cons, List.length_nil]; omega, fun i e N2 he hN2 => ?_⟩, fun j hj hna => ?_, hS.ok, hS.os⟩
   ·have := hA.mp
    rw [e, r1] at this
    injection this with this
    cases this
   ·rw [List.getElem?_set] at he
    by_cases hin : n = i
    ·subst hin
     rw [if_pos rfl, if_pos hnl2] at he
     injection he with he
     subst he
     rw [hN'] at hN2
     injection hN2 with hN2
     subst hN2
     refine ⟨vi, v4, v5, rfl, szk q2 (by decide), fun d hd => ?_, fun hd => ?_⟩
     ·rw [List.getElem?_append_right (by omega), hdn, Nat.sub_self] at hd
      injection hd with hd
      subst hd
      refine ⟨(szk hS.r4 (by decide)).le (by omega), (szk hS.r5 (by decide)).le (by omega), fun j hj => ?_⟩
      rcases hj with hj | hj
      ·have := (own_obj hS.r4 hj).2.1; omega
      ·have := (own_obj hS.r5 hj).2.1; omega
     ·rw [List.getElem?_append_right (by omega), hdn, Nat.sub_self] at hd
      cases hd
    ·rw [if_neg hin] at he
     obtain ⟨wi', w1, w2', t1, t2', t3, t4⟩ := hA.st i e N2 he hN2
     have hdi : ∀ x : StR, (done ++ [x])[i]? = done[i]? := fun x => by
      by_cases hlt : i < done.length
      ·rw [List.getElem?_append_left hlt]
      ·rw [List.getElem?_append_right (by omega), List.getElem?_eq_none (by simp only [List.length_cons, List.length_nil]; omega), List.getElem?_eq_none (by omega)]
     refine ⟨wi', w1, w2', t1, szk t2' (by decide), fun d hd => ?_, fun hd => ?_⟩
     ·rw [hdi] at hd
      obtain ⟨u1, u2, u3⟩ := t3 d hd
      exact ⟨szk u1 (by decide), szk u2 (by decide), fun j hj => by have := u3 j hj; omega⟩
     ·rw [hdi] at hd
      exact t4 hd
   ·refine (o8 j fun e => hna ?_).trans (hS.old j hj hna)
    rcases hS.os j (by rw [e]; rfl) with h' | h'
    ·exact .inr (.inr (.inr h'))
    ·omega
 ·exact ⟨Nat.zero_le _, by simp only [bA, reduceCtorEq], by simp only [bA, reduceCtorEq], by simp only [bA, reduceCtorEq], by simp only [bA, reduceCtorEq], by simp only [bA, reduceCtorEq] <;> rfl, .nils, .nils, vk, vs, els, by simp only [bA, reduceCtorEq], by simp only [bA, reduceCtorEq], hL1⟩
end
end Go.Proofs.YtpdcahaggacacaaDoor.K
set_option linter.unusedSimpArgs false
set_option linter.unusedVariables false
namespace Go.Proofs.YtpdcahaggacacaaDoor.Ev
open Go
inductive Fst (g : Gr) : Nat → Nat → Prop
 | tok (r : Int × List Int × Int) (hr : r ∈ g.rules) (p : List Int) (s : Int) (q : List Int) (h : r.2.1 = p ++ s :: q) (hp : ∀ x ∈ p, 0 ≤ x ∧ Nul g x.toNat) (hs : s < 0) : Fst g r.1.toNat (-1 - s).toNat
 | sub (r : Int × List Int × Int) (hr : r ∈ g.rules) (p : List Int) (s : Int) (q : List Int) (h : r.2.1 = p ++ s :: q) (hp : ∀ x ∈ p, 0 ≤ x ∧ Nul g x.toNat) (hs : 0 ≤ s) (t : Nat) (ht : Fst g s.toNat t) : Fst g r.1.toNat t
def Begs (g : Gr) (P : Nat → Nat → Prop) (l : List Int) (t : Nat) : Prop := ∃ p s q, l = p ++ s :: q ∧ (∀ x ∈ p, 0 ≤ x ∧ Nul g x.toNat) ∧ ((s < 0 ∧ t = (-1 - s).toNat) ∨ (0 ≤ s ∧ P s.toNat t))
def mAt (F : List (List Bool)) (a t : Nat) : Bool := bAt (F.getD a []) t
theorem nulVec_bAt {g : Gr} {null : List Bool} (h : NulVec g null) (a : Nat) : bAt null a = true ↔ Nul g a := by
 rw [← h.2 a]
 unfold bAt
 rw [List.getD_eq_getElem?_getD]
 cases null[a]? with
 | none => simp
 | some b => simp
theorem begV_iff {g : Gr} {null : List Bool} {F : List (List Bool)} (hN : NulVec g null) (t : Nat) : ∀ l : List Int, begV null F l t = true ↔ Begs g (fun a t => mAt F a t = true) l t
 | [] => by
  constructor
  ·intro h; cases h
  ·rintro ⟨p, s, q, h, _⟩
   cases p <;> cases h
 | s :: l => by
  unfold begV
  by_cases hs : s < 0
  ·rw [if_pos hs, decide_eq_true_eq]
   constructor
   ·intro h
    exact ⟨[], s, l, rfl, fun x hx => (by cases hx), .inl ⟨hs, h⟩⟩
   ·rintro ⟨p, s', q, h, hp, hc⟩
    cases p with
    | nil =>
     injection h with h1 h2
     subst h1
     rcases hc with ⟨_, h⟩ | ⟨h0, _⟩
     ·exact h
     ·omega
    | cons x p =>
     injection h with h1 h2
     subst h1
     have := (hp s List.mem_cons_self).1
     omega
  ·rw [if_neg hs, Bool.or_eq_true, Bool.and_eq_true, begV_iff hN t l, nulVec_bAt hN]
   constructor
   ·rintro (h | ⟨hn, p, s', q, rfl, hp, hc⟩)
    ·exact ⟨[], s, l, rfl, fun x hx => (by cases hx), .inr ⟨by omega, h⟩⟩
    ·refine ⟨s :: p, s', q, rfl, fun x hx => ?_, hc⟩
     rcases List.mem_cons.1 hx with rfl | hx
     ·exact ⟨by omega, hn⟩
     ·exact hp x hx
   ·rintro ⟨p, s', q, h, hp, hc⟩
    cases p with
    | nil =>
     injection h with h1 h2
     subst h1
     rcases hc with ⟨h0, _⟩ | ⟨_, h⟩
     ·omega
     ·exact .inl h
    | cons x p =>
     injection h with h1 h2
     subst h1
     exact .inr ⟨(hp s List.mem_cons_self).2, p, s', q, h2, fun y hy => hp y (List.mem_cons_of_mem _ hy), hc⟩
def FstClosed (null : List Bool) (F : List (List Bool)) (kk : Nat) (rs : List (Int × List Int × Int)) : Prop := ∀ r ∈ rs, ∀ t, t < kk → begV null F r.2.1 t = true → mAt F r.1.toNat t = true
structure FstMat (g : Gr) (F : List (List Bool)) : Prop where
 len : F.length = g.names.toNat
 rows : ∀ x ∈ F, x.length = g.kinds.toNat + 1
 iff : ∀ a t, mAt F a t = true ↔ Fst g a t
theorem fst_lt {g : Gr} (hok : GrOk g) {a t : Nat} (h : Fst g a t) : (t : Int) < g.kinds := by
 induction h with
 | tok r hr p s q h hp hs =>
  have := symB_neg (hok.sym r hr s (by rw [h]; simp)) hs
  omega
 | sub r hr p s q h hp hs t ht ih => exact ih
theorem fst_all {g : Gr} (hok : GrOk g) {null : List Bool} (hN : NulVec g null) {F : List (List Bool)} (h : FstClosed null F g.kinds.toNat g.rules) {a t : Nat} (ha : Fst g a t) : mAt F a t = true := by
 induction ha with
 | tok r hr p s q e hp hs =>
  have hlt := symB_neg (hok.sym r hr s (by rw [e]; simp)) hs
  refine h r hr _ (by omega) ((begV_iff hN _ _).2 ⟨p, s, q, e, hp, .inl ⟨hs, rfl⟩⟩)
 | sub r hr p s q e hp hs t ht ih =>
  have hlt := fst_lt hok ht
  exact h r hr _ (by omega) ((begV_iff hN _ _).2 ⟨p, s, q, e, hp, .inr ⟨hs, ih⟩⟩)
structure MatOwn (M : MH) (lo id : Nat) (ids : List Nat) (F : List (List Bool)) (K : Nat) : Prop where
 top : ∃ t, M.get id = some (.cs false 1 t) ∧ At t 0 (ids.map fun j => MV.sl j 0 K 0)
 len : ids.length = F.length
 rows : ∀ (i : Nat) j l, ids[i]? = some j → F[i]? = some l → BoolsAt M j l
 size : ∀ x ∈ F, x.length = K
 ne : ∀ j ∈ ids, j ≠ id ∧ lo ≤ j ∧ j < M.n
 idl : lo ≤ id ∧ id < M.n
 inj : ∀ (i i' : Nat) j, ids[i]? = some j → ids[i']? = some j → i = i'
theorem MatOwn.ext {M M' : MH} {lo id : Nat} {ids : List Nat} {F : List (List Bool)} {K : Nat} (h : MatOwn M lo id ids F K) (k : Ext M M') : MatOwn M' lo id ids F K := by
 obtain ⟨⟨t, h1, h2⟩, h3, h4, h5, h6, h7, h8⟩ := h
 have hn := k.n
 refine ⟨⟨t, (k.old _ h7.2).trans h1, h2⟩, h3, fun i j l a b => ?_, h5, fun j hj => ?_, ⟨h7.1, by omega⟩, h8⟩
 ·exact (h4 i j l a b).same (k.old _ (h6 j (List.mem_of_getElem? a)).2.2)
 ·obtain ⟨a, b, c⟩ := h6 j hj
  exact ⟨a, b, by omega⟩
theorem MatOwn.topr {M : MH} {lo id : Nat} {ids : List Nat} {F : List (List Bool)} {K : Nat} (h : MatOwn M lo id ids F K) : ∃ t, M.get id = some (.cs false 1 t) ∧ ∀ (a : Nat) j, ids[a]? = some j → cget t (a * 1) = some (.sl j 0 K 0) := by
 obtain ⟨t, h1, h2⟩ := h.top
 refine ⟨t, h1, fun a j hj => ?_⟩
 have := h2 a _ (by rw [List.getElem?_map, hj]; rfl)
 rwa [Nat.zero_add, ← Nat.mul_one a] at this
end Go.Proofs.YtpdcahaggacacaaDoor.Ev
set_option linter.unusedSimpArgs false
set_option linter.unusedVariables false
namespace Go.Proofs.YtpdcahaggacacaaDoor.Ev
open Go
end Go.Proofs.YtpdcahaggacacaaDoor.Ev
set_option linter.unusedSimpArgs false
set_option linter.unusedVariables false
namespace Go.Proofs.YtpdcahaggacacaaDoor.Ev
open Go
def fAt (F : List Nat) (a : Nat) : Nat := F.getD a 0
theorem fAt_at {F : List Nat} {a : Nat} (h : a < F.length) : F[a]? = some (fAt F a) := by
 unfold fAt
 rw [List.getD_eq_getElem?_getD, List.getElem?_eq_getElem h]
 rfl
theorem fAt_set {F : List Nat} {a b k : Nat} (h : a < F.length) : fAt (F.set a k) b = if a = b then k else fAt F b := by
 unfold fAt
 rw [List.getD_eq_getElem?_getD, List.getD_eq_getElem?_getD, List.getElem?_set]
 by_cases e : a = b
 ·subst e; simp [h]
 ·simp [e]
theorem fAt_lt {F : List Nat} {K : Nat} (h : ∀ k ∈ F, k < 2 ^ K) (a : Nat) : fAt F a < 2 ^ K := by
 by_cases ha : a < F.length
 ·exact h _ (List.mem_of_getElem? (fAt_at ha))
 ·unfold fAt
  rw [List.getD_eq_getElem?_getD, List.getElem?_eq_none (by omega)]
  exact Nat.two_pow_pos K
def rowK (N : List Bool) (F : List Nat) : List Int → Nat
 | [] => 0
 | s :: l => if s < 0 then 2 ^ (-1 - s).toNat else if bAt N s.toNat = true then fAt F s.toNat ||| rowK N F l else fAt F s.toNat
theorem rowK_drop {N : List Bool} {F : List Nat} {l : List Int} {i : Nat} {s : Int} (h : l[i]? = some s) : rowK N F (l.drop i) = if s < 0 then 2 ^ (-1 - s).toNat else if bAt N s.toNat = true then fAt F s.toNat ||| rowK N F (l.drop (i + 1)) else fAt F s.toNat := by
 have hi := (List.getElem?_eq_some_iff.1 h).1
 rw [List.drop_eq_getElem_cons hi, (List.getElem?_eq_some_iff.1 h).2]
 rfl
theorem allN_drop {N : List Bool} {l : List Int} {i : Nat} {s : Int} (h : l[i]? = some s) : allN N (l.drop i) = (oneN N s && allN N (l.drop (i + 1))) := by
 have hi := (List.getElem?_eq_some_iff.1 h).1
 rw [List.drop_eq_getElem_cons hi, (List.getElem?_eq_some_iff.1 h).2]
 rfl
theorem rowK_lt {N : List Bool} {F : List Nat} {K : Nat} (hF : ∀ k ∈ F, k < 2 ^ K) : ∀ {l : List Int}, (∀ s ∈ l, s < 0 → (-1 - s).toNat < K) → rowK N F l < 2 ^ K
 | [], _ => Nat.two_pow_pos K
 | s :: l, h => by
  unfold rowK
  split
  ·rename_i hs
   exact Nat.pow_lt_pow_right (by omega) (h s List.mem_cons_self hs)
  ·split
   ·exact Nat.or_lt_two_pow (fAt_lt hF _) (rowK_lt hF fun s hs => h s (List.mem_cons_of_mem _ hs))
   ·exact fAt_lt hF _
def FSnd (g : Gr) (F : List Nat) : Prop := ∀ a t, (fAt F a).testBit t = true → Fst g a t
def NSnd (g : Gr) (N : List Bool) : Prop := ∀ a, bAt N a = true → Nul g a
theorem rowK_sound {g : Gr} {N : List Bool} {F : List Nat} (hN : NSnd g N) {P : Nat → Nat → Prop} (hF : ∀ a t, (fAt F a).testBit t = true → P a t) (t : Nat) : ∀ l : List Int, (rowK N F l).testBit t = true → Begs g P l t
 | [], h => by
  unfold rowK at h
  rw [Nat.zero_testBit] at h
  cases h
 | s :: l, h => by
  unfold rowK at h
  split at h
  ·rename_i hs
   rw [Nat.testBit_two_pow, decide_eq_true_eq] at h
   exact ⟨[], s, l, rfl, fun x hx => (by cases hx), .inl ⟨hs, h.symm⟩⟩
  ·rename_i hs
   split at h
   ·rename_i hn
    rw [Nat.testBit_or, Bool.or_eq_true] at h
    rcases h with h | h
    ·exact ⟨[], s, l, rfl, fun x hx => (by cases hx), .inr ⟨by omega, hF _ _ h⟩⟩
    ·obtain ⟨p, s', q, rfl, hp, hc⟩ := rowK_sound hN hF t l h
     refine ⟨s :: p, s', q, rfl, fun x hx => ?_, hc⟩
     rcases List.mem_cons.1 hx with rfl | hx
     ·exact ⟨by omega, hN _ hn⟩
     ·exact hp x hx
   ·exact ⟨[], s, l, rfl, fun x hx => (by cases hx), .inr ⟨by omega, hF _ _ h⟩⟩
theorem fst_of_row {g : Gr} {N : List Bool} {F : List Nat} (hN : NSnd g N) (hF : FSnd g F) {r : Int × List Int × Int} (hr : r ∈ g.rules) {t : Nat} (h : (rowK N F r.2.1).testBit t = true) : Fst g r.1.toNat t := by
 obtain ⟨p, s, q, e, hp, ⟨h0, rfl⟩ | ⟨h0, h1⟩⟩ := rowK_sound hN hF t _ h
 ·exact .tok r hr p s q e hp h0
 ·exact .sub r hr p s q e hp h0 t h1
theorem nul_of_row {g : Gr} {N : List Bool} (hN : NSnd g N) {r : Int × List Int × Int} (hr : r ∈ g.rules) (h : allN N r.2.1 = true) : Nul g r.1.toNat := by
 have hall := List.all_eq_true.1 h
 refine .mk r hr (fun s hs => ?_) fun s hs => ?_
 ·have := hall s hs
  unfold oneN at this
  simp only [Bool.and_eq_true, decide_eq_true_eq] at this
  exact this.1
 ·have := hall s hs
  unfold oneN at this
  simp only [Bool.and_eq_true, decide_eq_true_eq] at this
  exact hN _ this.2
def rowB (K k : Nat) : List Bool := (List.range K).map k.testBit
def FM (K : Nat) (F : List Nat) : List (List Bool) := F.map (rowB K)
theorem bAt_rowB {K k t : Nat} (h : t < K) : bAt (rowB K k) t = k.testBit t := by
 refine bAt_some ?_
 unfold rowB
 rw [List.getElem?_map, List.getElem?_range h]
 rfl
theorem bAt_rowB' {K k t : Nat} (h : k < 2 ^ K) : bAt (rowB K k) t = k.testBit t := by
 by_cases ht : t < K
 ·exact bAt_rowB ht
 ·rw [Nat.testBit_lt_two_pow (Nat.lt_of_lt_of_le h (Nat.pow_le_pow_right (by omega) (by omega)))]
  unfold bAt rowB
  rw [List.getD_eq_getElem?_getD, List.getElem?_eq_none (by rw [List.length_map, List.length_range]; omega)]
  rfl
theorem mAt_FM {K : Nat} {F : List Nat} (h : ∀ k ∈ F, k < 2 ^ K) (a t : Nat) : mAt (FM K F) a t = (fAt F a).testBit t := by
 unfold mAt FM
 by_cases ha : a < F.length
 ·have e := fAt_at ha
  rw [List.getD_eq_getElem?_getD, List.getElem?_map, e]
  exact bAt_rowB' (fAt_lt h a)
 ·unfold fAt
  rw [List.getD_eq_getElem?_getD, List.getElem?_eq_none (by rw [List.length_map]; omega), List.getD_eq_getElem?_getD, List.getElem?_eq_none (by omega)]
  simp only [Option.getD_none, Nat.zero_testBit]
  rfl
theorem begV_FM {K : Nat} {N : List Bool} {F : List Nat} (h : ∀ k ∈ F, k < 2 ^ K) (t : Nat) : ∀ l : List Int, begV N (FM K F) l t = (rowK N F l).testBit t
 | [] => by unfold begV rowK; rw [Nat.zero_testBit]
 | s :: l => by
  unfold begV rowK
  split
  ·rw [Nat.testBit_two_pow, decide_eq_decide]
   exact ⟨fun e => e.symm, fun e => e.symm⟩
  ·have := mAt_FM h s.toNat t
   unfold mAt at this
   rw [this, begV_FM h t l]
   split
   ·rename_i e
    rw [e, Nat.testBit_or, Bool.true_and]
   ·rename_i e
    rw [Bool.not_eq_true] at e
    rw [e, Bool.false_and, Bool.or_false]
def BClosed (N : List Bool) (F : List Nat) (r : Int × List Int × Int) : Prop := rowK N F r.2.1 ||| fAt F r.1.toNat = fAt F r.1.toNat ∧ (allN N r.2.1 = true → bAt N r.1.toNat = true)
theorem sub_of_or {a b t : Nat} (h : a ||| b = b) (ht : a.testBit t = true) : b.testBit t = true := by
 rw [← h, Nat.testBit_or, ht, Bool.true_or]
theorem begins_vec {g : Gr} {N : List Bool} {F : List Nat} (hl : N.length = g.names.toNat) (hN : NSnd g N) (hc : ∀ r ∈ g.rules, BClosed N F r) (hok : GrOk g) : NulVec g N := by
 refine nul_vec hl (fun a h => hN a (bAt_some h)) fun r hr h => ?_
 have := (hc r hr).2 h
 obtain ⟨h0, h1⟩ := hok.left r hr
 rw [bAt_at (by omega), this]
theorem begins_mat {g : Gr} {N : List Bool} {F : List Nat} (hl : F.length = g.names.toNat) (hN : NulVec g N) (hF : FSnd g F) (hlt : ∀ k ∈ F, k < 2 ^ (g.kinds.toNat + 1)) (hc : ∀ r ∈ g.rules, BClosed N F r) (hok : GrOk g) : FstMat g (FM (g.kinds.toNat + 1) F) := by
 refine ⟨by unfold FM; rw [List.length_map, hl], fun x hx => ?_, fun a t => ⟨fun h => ?_, fun h => ?_⟩⟩
 ·obtain ⟨k, _, rfl⟩ := List.mem_map.1 hx
  unfold rowB
  rw [List.length_map, List.length_range]
 ·rw [mAt_FM hlt] at h
  exact hF a t h
 ·refine fst_all hok hN (fun r hr t ht h => ?_) h
  rw [begV_FM hlt] at h
  rw [mAt_FM hlt]
  exact sub_of_or (hc r hr).1 h
theorem snd_add {g : Gr} {N : List Bool} {F : List Nat} (hN : NSnd g N) (hF : FSnd g F) {r : Int × List Int × Int} (hr : r ∈ g.rules) (h1 : r.1.toNat < N.length) (h2 : r.1.toNat < F.length) : NSnd g (N.set r.1.toNat (allN N r.2.1 || bAt N r.1.toNat)) ∧ FSnd g (F.set r.1.toNat (rowK N F r.2.1 ||| fAt F r.1.toNat)) := by
 refine ⟨fun a ha => ?_, fun a t ha => ?_⟩
 ·rw [bAt_set h1] at ha
  split at ha
  ·rename_i e
   subst e
   rw [Bool.or_eq_true] at ha
   exact ha.elim (fun x => nul_of_row hN hr x) (fun x => hN _ x)
  ·exact hN _ ha
 ·rw [fAt_set h2] at ha
  split at ha
  ·rename_i e
   subst e
   rw [Nat.testBit_or, Bool.or_eq_true] at ha
   exact ha.elim (fun x => fst_of_row hN hF hr x) (fun x => hF _ _ x)
  ·exact hF _ _ ha
theorem closed_of {N : List Bool} {F : List Nat} {r : Int × List Int × Int} (h1 : rowK N F r.2.1 ||| fAt F r.1.toNat = fAt F r.1.toNat) (h2 : (allN N r.2.1 || bAt N r.1.toNat) = bAt N r.1.toNat) : BClosed N F r := ⟨h1, fun h => by rw [h, Bool.true_or] at h2; exact h2.symm⟩
def miss (F : List Nat) : Nat := (F.map fun k => 2 ^ 64 - k).sum
theorem miss_set {F : List Nat} {a k : Nat} (h : a < F.length) (hk : fAt F a < k) (hk2 : k ≤ 2 ^ 64) : miss (F.set a k) < miss F := by
 unfold miss
 induction F generalizing a with
 | nil => simp at h
 | cons x F ih =>
  cases a with
  | zero =>
   unfold fAt at hk
   simp only [List.getD_cons_zero] at hk
   simp only [List.set_cons_zero, List.map_cons, List.sum_cons]
   omega
  | succ a =>
   unfold fAt at hk ih
   simp only [List.getD_cons_succ] at hk
   have := ih (by simpa using h) hk
   simp only [List.set_cons_succ, List.map_cons, List.sum_cons]
   omega
theorem set_self {α : Type} {l : List α} {i : Nat} {x : α} (h : l[i]? = some x) : l.set i x = l := by
 refine List.ext_getElem? fun j => ?_
 rw [List.getElem?_set]
 split
 ·rename_i e
  subst e
  rw [if_pos (List.getElem?_eq_some_iff.1 h).1, h]
 ·rfl
def big (N : List Bool) (F : List Nat) : Nat := falses N + miss F
theorem big_add {N : List Bool} {F : List Nat} {a k : Nat} {b : Bool} (hn : a < N.length) (hf : a < F.length) (hk : k < 2 ^ 64) (hF : fAt F a < 2 ^ 64) :
  let k' := k ||| fAt F a; let b' := b || bAt N a
  (k' = fAt F a ∧ b' = bAt N a ∧ N.set a b' = N ∧ F.set a k' = F) ∨ ((k' ≠ fAt F a ∨ b' ≠ bAt N a) ∧ big (N.set a b') (F.set a k') < big N F) := by
 intro k' b'
 have hk1 : fAt F a ≤ k' := Nat.right_le_or
 have hk2 : k' < 2 ^ 64 := Nat.or_lt_two_pow hk hF
 by_cases e1 : k' = fAt F a
 ·have s1 : F.set a k' = F := by rw [e1]; exact set_self (fAt_at hf)
  by_cases e2 : b' = bAt N a
  ·exact .inl ⟨e1, e2, by rw [e2]; exact set_self (bAt_at hn), s1⟩
  ·refine .inr ⟨.inr e2, ?_⟩
   have hb : bAt N a = false ∧ b' = true := by
    show bAt N a = false ∧ (b || bAt N a) = true
    have e2' : ¬ (b || bAt N a) = bAt N a := e2
    revert e2'
    cases b <;> cases bAt N a <;> simp
   rw [s1, hb.2]
   unfold big
   have := falses_set (l := N) (i := a) (by rw [bAt_at hn, hb.1])
   omega
 ·refine .inr ⟨.inl e1, ?_⟩
  unfold big
  have h1 := miss_set hf (k := k') (by omega) (by omega)
  have h2 : falses (N.set a b') ≤ falses N := by
   by_cases e2 : b' = bAt N a
   ·rw [e2, set_self (bAt_at hn)]; exact Nat.le_refl _
   ·have hb : bAt N a = false ∧ b' = true := by
     show bAt N a = false ∧ (b || bAt N a) = true
     have e2' : ¬ (b || bAt N a) = bAt N a := e2
     revert e2'
     cases b <;> cases bAt N a <;> simp
    rw [hb.2]
    exact Nat.le_of_lt (falses_set (l := N) (i := a) (by rw [bAt_at hn, hb.1]))
  omega
end Go.Proofs.YtpdcahaggacacaaDoor.Ev
set_option linter.unusedSimpArgs false
set_option linter.unusedVariables false
namespace Go.Proofs.YtpdcahaggacacaaDoor.Ev
open Go
def stayN (N : List Bool) (l : List Int) (k : Nat) : Bool := allN N (l.take k) && allN N (l.drop (k + 1))
def aloneB (N : List Bool) (l : List Int) (n : Nat) (j : Nat) : Bool := (List.range n).any fun k => decide (l[k]? = some (j : Int)) && stayN N l k
theorem aloneB_succ (N : List Bool) (l : List Int) (n j : Nat) : aloneB N l (n + 1) j = (aloneB N l n j || (decide (l[n]? = some (j : Int)) && stayN N l n)) := by
 unfold aloneB
 rw [List.range_succ, List.any_append]
 simp
def cyB (N : List Bool) (rs : List (Int × List Int × Int)) (i j : Nat) : Bool := rs.any fun r => decide (r.1 = (i : Int)) && aloneB N r.2.1 r.2.1.length j
theorem cyB_nil (N : List Bool) (i j : Nat) : cyB N [] i j = false := rfl
theorem cyB_take {N : List Bool} {rs : List (Int × List Int × Int)} {k : Nat} {r : Int × List Int × Int} (h : rs[k]? = some r) (i j : Nat) : cyB N (rs.take (k + 1)) i j = (cyB N (rs.take k) i j || (decide (r.1 = (i : Int)) && aloneB N r.2.1 r.2.1.length j)) := by
 unfold cyB
 rw [List.take_add_one, h, List.any_append]
 simp
def cyW (T : Nat → Nat → Bool) (k : Nat) : Nat → Nat → Bool := fun i j => T i j || (T i k && T k j)
def cyIt (T : Nat → Nat → Bool) : Nat → Nat → Nat → Bool
 | 0 => T
 | k + 1 => cyW (cyIt T k) k
theorem cyW_via (T : Nat → Nat → Bool) (k j : Nat) : cyW T k k j = T k j := by
 unfold cyW
 cases T k j <;> cases T k k <;> rfl
theorem cyW_to (T : Nat → Nat → Bool) (k i : Nat) : cyW T k i k = T i k := by
 unfold cyW
 cases T i k <;> cases T k k <;> rfl
def cyL (g : Gr) (N : List Bool) : List Bool := (List.range g.names.toNat).map fun i => cyIt (cyB N g.rules) g.names.toNat i i
theorem cyL_len (g : Gr) (N : List Bool) : (cyL g N).length = g.names.toNat := by unfold cyL; rw [List.length_map, List.length_range]
theorem cyL_at {g : Gr} {N : List Bool} {i : Nat} (h : i < g.names.toNat) : bAt (cyL g N) i = cyIt (cyB N g.rules) g.names.toNat i i := by
 refine bAt_some ?_
 unfold cyL
 rw [List.getElem?_map, List.getElem?_range h]
 rfl
def firstP (p : Nat → Bool) : Nat → Nat → Option Nat
 | 0, _ => none
 | n + 1, i => if p i = true then some i else firstP p n (i + 1)
theorem firstP_some {p : Nat → Bool} : ∀ {n i k}, firstP p n i = some k → i ≤ k ∧ k < i + n ∧ p k = true ∧ ∀ m, i ≤ m → m < k → p m = false
 | 0, i, k, h => by cases h
 | n + 1, i, k, h => by
  unfold firstP at h
  split at h
  ·rename_i hp
   injection h with h
   subst h
   exact ⟨by omega, by omega, hp, fun m h1 h2 => absurd h1 (by omega)⟩
  ·rename_i hp
   obtain ⟨h1, h2, h3, h4⟩ := firstP_some h
   refine ⟨by omega, by omega, h3, fun m a b => ?_⟩
   by_cases e : m = i
   ·subst e; simpa using hp
   ·exact h4 m (by omega) b
theorem firstP_none {p : Nat → Bool} : ∀ {n i}, firstP p n i = none → ∀ m, i ≤ m → m < i + n → p m = false
 | 0, i, _, m, h1, h2 => absurd h1 (by omega)
 | n + 1, i, h, m, h1, h2 => by
  unfold firstP at h
  split at h
  ·cases h
  ·rename_i hp
   by_cases e : m = i
   ·subst e; simpa using hp
   ·exact firstP_none h m (by omega) (by omega)
theorem firstP_is {p : Nat → Bool} {n i k : Nat} (h1 : i ≤ k) (h2 : k < i + n) (h3 : p k = true) (h4 : ∀ m, i ≤ m → m < k → p m = false) : firstP p n i = some k := by
 cases e : firstP p n i with
 | none => rw [firstP_none e k h1 h2] at h3; cases h3
 | some m =>
  obtain ⟨a1, a2, a3, a4⟩ := firstP_some e
  by_cases hlt : m < k
  ·rw [h4 m a1 hlt] at a3; cases a3
  ·by_cases hgt : k < m
   ·rw [a4 k h1 hgt] at h3; cases h3
   ·congr 1; omega
theorem firstP_no {p : Nat → Bool} {n i : Nat} (h : ∀ m, i ≤ m → m < i + n → p m = false) : firstP p n i = none := by
 cases e : firstP p n i with
 | none => rfl
 | some m =>
  obtain ⟨a1, a2, a3, a4⟩ := firstP_some e
  rw [h m a1 a2] at a3; cases a3
def chkV (n : Nat) (R P C : List Bool) : Int × Int := match firstP (fun i => !(bAt R i) || !(bAt P i)) n 0 with
 | some i => ((i : Int), 7)
 | none => match firstP (bAt C) n 0 with
  | some i => ((i : Int), 8)
  | none => (-1, 0)
end Go.Proofs.YtpdcahaggacacaaDoor.Ev
set_option linter.unusedSimpArgs false
set_option linter.unusedVariables false
namespace Go.Proofs.YtpdcahaggacacaaDoor.K
open Go Ev
set_option maxRecDepth 100000
set_option maxHeartbeats 4000000

theorem oneN_at {N : List Bool} {n : Nat} : oneN N (n : Int) = bAt N n := by unfold oneN bAt; rw [Int.toNat_natCast]; simp
theorem only_c {M : MH} {k : Nat} (h : k < 64) : Cp fns 64 [.i .i64 (k : Int)] M fun m M' => m = .i .u64 ((2 ^ k : Nat) : Int) ∧ M' = M := by
 refine Cp_call (fn := F64) (by kernel_rfl) (Nat.le_of_ble_eq_true rfl) ?_
 show Wp fns B64 (T.set q0 (some (.i .i64 (k : Int))) T.lf) M _
 unfold B64
 have hs := shl_u64 k h
 simp (disch := try exact dz) only [↓bxD, bA, simprocAttr, hs]
theorem and_two {w k : Nat} : (w &&& 2 ^ k = 0) ↔ w.testBit k = false := by
 constructor
 ·intro h
  have : (w &&& 2 ^ k).testBit k = false := by rw [h, Nat.zero_testBit]
  rw [Nat.testBit_and, Nat.testBit_two_pow, decide_eq_true rfl, Bool.and_true] at this
  exact this
 ·intro h
  refine Nat.eq_of_testBit_eq fun i => ?_
  rw [Nat.testBit_and, Nat.testBit_two_pow, Nat.zero_testBit]
  by_cases e : k = i
  ·subst e; rw [h, Bool.false_and]
  ·rw [decide_eq_false e, Bool.and_false]
theorem has_any {M : MH} {w k : Nat} (hw : w < 2 ^ 64) (hk : k < 64) : Cp fns 52 [.i .u64 (w : Int), .i .i64 (k : Int)] M fun m M' => m = .b (w.testBit k) ∧ M' = M := by
 refine Cp_call (fn := F52) (by kernel_rfl) (Nat.le_of_ble_eq_true rfl) ?_
 show Wp fns B52 (T.set q1 (some (.i .i64 (k : Int))) (T.set q0 (some (.i .u64 (w : Int))) T.lf)) M _
 unfold B52
 simp (disch := try exact dz) only [↓bxD, bA, simprocAttr]
 refine bindP_call (only_c hk) ?_
 rintro m M2 ⟨rfl, rfl⟩
 have ha := and_u64 (a := w) (b := 2 ^ k) hw (show 2 ^ k < 2 ^ 64 from Nat.pow_lt_pow_right (by omega) (by omega))
 have hz : decide (((w &&& 2 ^ k : Nat) : Int) ≠ 0) = w.testBit k := by
  cases e : w.testBit k with
  | false => rw [and_two.2 e]; rfl
  | true =>
   have : w &&& 2 ^ k ≠ 0 := fun e' => by rw [and_two.1 e'] at e; cases e
   exact decide_eq_true (by generalize w &&& 2 ^ k = z at this ⊢; omega)
 simp (disch := try exact dz) only [↓bxD, bA, simprocAttr, ha, hz]
theorem stay_any {M : MH} {b : Nat} {vn : MV} {N : List Bool} {s : Int} (hb : M.get b = some (.cs false 1 (ofL [vn] 0))) (hN : BRow M vn N) (hs : 0 ≤ s → s.toNat < N.length) (hlo : M.lo ≤ M.n) : Cp fns 74 [.i .i64 s, .p b 0] M fun m M' => m = .b (!(oneN N s)) ∧ Ext M M' := by
 obtain ⟨n1, n2⟩ := hN.sl
 refine Cp_call (fn := F74) (by kernel_rfl) (Nat.le_of_ble_eq_true rfl) ?_
 show Wp fns B74 (T.set q1 (some (.p b 0)) (T.set q0 (some (.i .i64 s)) T.lf)) M _
 unfold B74
 by_cases h0 : s < 0
 ·have d0 : decide (s < 0) = true := decide_eq_true h0
  have e : oneN N s = false := by unfold oneN; rw [decide_eq_false (by omega), Bool.false_and]
  simp (disch := try exact dz) only [↓bxD, bA, simprocAttr, d0]
  exact ⟨by rw [e]; rfl, .refl _⟩
 ·have d0 : decide (s < 0) = false := decide_eq_false h0
  obtain ⟨n, rfl⟩ : ∃ n : Nat, s = n := ⟨s.toNat, by omega⟩
  have hn := hs (by omega)
  rw [Int.toNat_natCast] at hn
  obtain ⟨ro, sz, t, hg, hid, hC⟩ := hN.read hn
  have cb : cget (ofL [vn] 0) 0 = some vn := (at_ofL [vn]) 0 _ rfl
  simp (disch := try exact dz) only [↓bxD, bA, simprocAttr, hb, d0, hg, hC, cb]
  exact ⟨by rw [oneN_at], .refl _⟩
theorem vanish_any {M : MH} {vn v : MV} {N : List Bool} {l : List Int} (hN : BRow M vn N) (hv : IntRow M v l) (hs : ∀ s ∈ l, 0 ≤ s → s.toNat < N.length) (hl : l.length ≤ 100) (hlo : M.lo ≤ M.n) : Cp fns 69 [vn, v] M fun m M' => m = .b (allN N l) ∧ Ext M M' := by
 refine Cp_call (fn := F69) (by kernel_rfl) (Nat.le_of_ble_eq_true rfl) ?_
 show Wp fns B69 (T.set q1 (some v) (T.set q0 (some vn) T.lf)) M _
 unfold B69
 obtain ⟨n1, n2⟩ := hN.sl
 have nc := isSl_cells n1
 have nu := isSl_isU n1
 simp (disch := try exact dz) only [↓bxD, bA, simprocAttr, nc, nu]
 generalize hM1 : M.push _ = M1
 have g0 : M1.get M.n = some (.cs false 1 (ofL [vn] 0)) := by rw [← hM1]; exact push_new _
 have x1 : Ext M M1 := by rw [← hM1]; exact .push M _
 have m1 : M1.n = M.n + 1 := by rw [← hM1]; rfl
 have l1 := x1.lo
 clear hM1
 have hall : (l.any fun z => !(oneN N z)) = !(allN N l) := by
  unfold allN
  rw [List.not_all_eq_any_not]
 refine bindP_call (contains_any (p := fun z => !(oneN N z)) (hv.ext x1) (by omega) fun M' z hx hz => ?_) ?_
 ·have := hx.n
  have := hx.lo
  exact stay_any (by rw [hx.old _ (by omega)]; exact g0) ((hN.ext x1).ext hx) (hs z hz) (by omega)
 rintro m M2 ⟨rfl, x2⟩
 rw [hall]
 simp (disch := try exact dz) only [↓bxD, bA, simprocAttr]
 exact ⟨by rw [Bool.not_not], x1.trans x2⟩
def AloneW (N : List Bool) (l : List Int) (n w : Nat) : Prop := w < 2 ^ 64 ∧ ∀ j, w.testBit j = aloneB N l n j
theorem alone_any {M : MH} {vn v : MV} {N : List Bool} {l : List Int} (hN : BRow M vn N) (hv : IntRow M v l) (hs : ∀ s ∈ l, 0 ≤ s → s.toNat < N.length) (hnl : N.length ≤ 40) (hl : l.length ≤ 100) (hlo : M.lo ≤ M.n) : Cp fns 63 [vn, v] M fun m M' => (∃ w : Nat, m = .i .u64 (w : Int) ∧ AloneW N l l.length w) ∧ Ext M M' := by
 obtain ⟨v1, v2⟩ := hv.sl
 obtain ⟨n1, n2⟩ := hN.sl
 refine Cp_call (fn := F63) (by kernel_rfl) (Nat.le_of_ble_eq_true rfl) ?_
 show Wp fns B63 (T.set q1 (some v) (T.set q0 (some vn) T.lf)) M _
 unfold B63
 simp (disch := try exact dz) only [↓bxD, bA, simprocAttr, v2]
 refine Wp_inv (σ := Nat × Nat) (fun s f M' => s.1 ≤ l.length ∧ Ext M M' ∧ AloneW N l s.1 s.2 ∧ X.ev f (.t q0) = vn ∧ X.ev f (.t q1) = v ∧ X.ev f (.t q5) = .i .u64 (s.2 : Int) ∧ X.ev f (.t q8) = v ∧ X.ev f (.t q9) = .i .i64 (l.length : Int) ∧ X.ev f (.t q10) = .i .i64 (s.1 : Int)) (fun s => l.length - s.1) ?_ (0, 0) ?_
 ·rintro ⟨i, w⟩ f M1 ⟨hi, hx, ⟨hw, hwb⟩, h0, h1, h5, h8, h9, h10⟩
  simp only at hi hw hwb h5 h10
  simp only [q0, q1, q5, q8, q9, q10] at h0 h1 h5 h8 h9 h10
  have xn := hx.n
  have xl := hx.lo
  unfold L63_2
  by_cases hi' : i < l.length
  ·have d1 : decide ((i : Int) < (l.length : Int)) = true := decide_eq_true (by omega)
   obtain ⟨z, hz⟩ : ∃ z, l[i]? = some z := ⟨_, List.getElem?_eq_getElem hi'⟩
   obtain ⟨ro, sz, t, hg, hid, hC⟩ := (hv.ext hx).read hz
   have hc1 := cutM_hi (sz := 1) (k := .i64) v1 (h := i) (by omega)
   have hc2 := cutM_lo (sz := 1) (k := .i64) v1 (l := i + 1) (by omega)
   have wi : wrapF .i64 ((i : Int) + 1) = ((i + 1 : Nat) : Int) := by rw [wrap_in (by omega) (by omega)]; omega
   by_cases z0 : z < 0
   ·have d2 : decide (0 ≤ z) = false := decide_eq_false (by omega)
    simp (disch := try exact dz) only [↓bxD, bA, simprocAttr, h9, h10, d1]
    show Wp fns K63_1 _ _ _
    unfold K63_1
    simp (disch := try exact dz) only [↓bxD, bA, simprocAttr, h8, h10, hg, hC, d2]
    show Wp fns K63_0 _ _ _
    unfold K63_0
    simp (disch := try exact dz) only [↓bxD, bA, simprocAttr, h0, h1, h5, h8, h9, h10]
    refine ⟨(i + 1, w), by simp only; omega, by simp only; omega, hx, ⟨hw, fun j => ?_⟩, rfl, rfl⟩
    rw [hwb, aloneB_succ, hz, decide_eq_false (fun e => by injection e with e; omega), Bool.false_and, Bool.or_false]
   ·have d2 : decide (0 ≤ z) = true := decide_eq_true (by omega)
    simp (disch := try exact dz) only [↓bxD, bA, simprocAttr, h9, h10, d1]
    show Wp fns K63_1 _ _ _
    unfold K63_1
    simp (disch := try exact dz) only [↓bxD, bA, simprocAttr, h0, h1, h8, h10, hg, hC, d2, Option.map_some, Option.map_none, hc1]
    refine bindP_call (vanish_any (hN.ext hx) (int_take (hv.ext hx) (i := i) (by omega)) (fun s hs' => hs s (List.mem_of_mem_take hs')) (by rw [List.length_take]; omega) (by omega)) ?_
    rintro m M2 ⟨rfl, x2⟩
    have xn2 := x2.n
    have xl2 := x2.lo
    obtain ⟨zn, rfl⟩ : ∃ n : Nat, z = n := ⟨z.toNat, by omega⟩
    have hzN := hs _ (List.mem_of_getElem? hz) (by omega)
    rw [Int.toNat_natCast] at hzN
    cases ha : allN N (l.take i) with
    | false =>
     simp (disch := try exact dz) only [↓bxD, bA, simprocAttr]
     show Wp fns K63_0 _ _ _
     unfold K63_0
     simp (disch := try exact dz) only [↓bxD, bA, simprocAttr, h0, h1, h5, h8, h9, h10]
     refine ⟨(i + 1, w), by simp only; omega, by simp only; omega, hx.trans x2, ⟨hw, fun j => ?_⟩, rfl, rfl⟩
     rw [hwb, aloneB_succ]
     unfold stayN
     rw [ha, Bool.false_and, Bool.and_false, Bool.or_false]
    | true =>
     simp (disch := try exact dz) only [↓bxD, bA, simprocAttr, h0, h1, Option.map_some, Option.map_none, wi, hc2]
     refine bindP_call (vanish_any (hN.ext (hx.trans x2)) (int_skip (hv.ext (hx.trans x2)) (i := i + 1) (by omega)) (fun s hs' => hs s (List.mem_of_mem_drop hs')) (by rw [List.length_drop]; omega) (by omega)) ?_
     rintro m M3 ⟨rfl, x3⟩
     have xn3 := x3.n
     have xl3 := x3.lo
     cases hb : allN N (l.drop (i + 1)) with
     | false =>
      simp (disch := try exact dz) only [↓bxD, bA, simprocAttr]
      show Wp fns K63_0 _ _ _
      unfold K63_0
      simp (disch := try exact dz) only [↓bxD, bA, simprocAttr, h0, h1, h5, h8, h9, h10]
      refine ⟨(i + 1, w), by simp only; omega, by simp only; omega, (hx.trans x2).trans x3, ⟨hw, fun j => ?_⟩, rfl, rfl⟩
      rw [hwb, aloneB_succ]
      unfold stayN
      rw [hb, Bool.and_false, Bool.and_false, Bool.or_false]
     | true =>
      have hk : 2 ^ zn < 2 ^ 64 := Nat.pow_lt_pow_right (by omega) (by omega)
      have hor := or_u64 (a := w) (b := 2 ^ zn) hw hk
      simp (disch := try exact dz) only [↓bxD, bA, simprocAttr, h5]
      refine bindP_call (only_c (k := zn) (by omega)) ?_
      rintro m M4 ⟨rfl, rfl⟩
      simp (disch := try exact dz) only [↓bxD, bA, simprocAttr, hor]
      show Wp fns K63_0 _ _ _
      unfold K63_0
      simp (disch := try exact dz) only [↓bxD, bA, simprocAttr, h0, h1, h8, h9, h10]
      refine ⟨(i + 1, w ||| 2 ^ zn), by simp only; omega, by simp only; omega, (hx.trans x2).trans x3, ⟨Nat.or_lt_two_pow hw hk, fun j => ?_⟩, rfl, rfl⟩
      simp only
      rw [Nat.testBit_or, hwb, aloneB_succ, hz, Nat.testBit_two_pow]
      unfold stayN
      rw [ha, hb, Bool.and_self, Bool.and_true]
      congr 1
      rw [decide_eq_decide]
      exact ⟨fun e => by rw [e], fun e => by injection e with e; omega⟩
  ·have d1 : decide ((i : Int) < (l.length : Int)) = false := decide_eq_false (by omega)
   obtain rfl : i = l.length := by omega
   simp (disch := try exact dz) only [↓bxD, bA, simprocAttr, h9, h10, d1]
   show Wp fns K63_3 _ _ _
   unfold K63_3
   simp (disch := try exact dz) only [↓bxD, bA, simprocAttr, h5]
   exact ⟨⟨w, rfl, hw, hwb⟩, hx⟩
 ·exact ⟨Nat.zero_le _, .refl _, ⟨by decide, fun j => by simp [aloneB]⟩, by simp only [bA, reduceCtorEq], by simp only [bA, reduceCtorEq], by simp only [bA, reduceCtorEq] <;> rfl, by simp only [bA, reduceCtorEq], by simp only [bA, reduceCtorEq], by simp only [bA, reduceCtorEq] <;> rfl⟩
def WordsAt (M : MH) (id : Nat) (l : List Nat) : Prop := ∃ t, M.get id = some (.cs false 1 t) ∧ At t 0 (l.map fun k => MV.i .u64 ((k : Nat) : Int))
theorem WordsAt.same {M M' : MH} {id : Nat} {l : List Nat} (h : WordsAt M id l) (e : M'.get id = M.get id) : WordsAt M' id l := let ⟨t, h1, h2⟩ := h; ⟨t, e.trans h1, h2⟩
theorem WordsAt.read {M : MH} {id : Nat} {l : List Nat} (h : WordsAt M id l) : ∃ t, M.get id = some (.cs false 1 t) ∧ (∀ i, i < l.length → cget t (i * 1) = some (.i .u64 ((fAt l i : Nat) : Int))) ∧ (∀ i, i < l.length → hasB t 1 (i * 1) = true) ∧ ∀ i x, i < l.length → At (setN [.i .u64 ((x : Nat) : Int)] (i * 1) t) 0 ((l.set i x).map fun k => MV.i .u64 ((k : Nat) : Int)) := by
 obtain ⟨t, h1, h2⟩ := h
 refine ⟨t, h1, fun i hb => ?_, fun i hi => has_at h2 (Nat.zero_le _) (by rw [List.length_map]; omega), fun i x hi => ?_⟩
 ·rw [Nat.mul_one]
  have := h2 i _ (by rw [List.getElem?_map, fAt_at hb]; rfl)
  rwa [Nat.zero_add] at this
 ·rw [List.map_set]
  exact h2.set' i _ (by rw [List.length_map]; exact hi) (by omega)
theorem bools_readA {M : MH} {id : Nat} {l : List Bool} (h : BoolsAt M id l) : ∃ t, M.get id = some (.cs false 1 t) ∧ (∀ i, i < l.length → cget t (i * 1) = some (.b (bAt l i))) ∧ (∀ i, i < l.length → hasB t 1 (i * 1) = true) ∧ ∀ i x, i < l.length → At (setN [.b x] (i * 1) t) 0 ((l.set i x).map MV.b) := by
 obtain ⟨t, h1, h2, h3, h4⟩ := h.read
 exact ⟨t, h1, fun i hi => h2 i _ (bAt_at hi), h3, h4⟩
structure Two (M : MH) (na nf : Nat) (N : List Bool) (F : List Nat) : Prop where
 a : BoolsAt M na N
 f : WordsAt M nf F
 lna : na < M.n
 lnf : nf < M.n
 ne : na ≠ nf
 len : N.length = F.length
 lt : ∀ k ∈ F, k < 2 ^ 64
theorem Two.chg {S : Nat → Prop} {M M' : MH} {na nf : Nat} {N : List Bool} {F : List Nat} (h : Two M na nf N F) (k : Chg S M M') (s1 : ¬ S na) (s2 : ¬ S nf) : Two M' na nf N F := ⟨h.a.same (k.old _ h.lna s1), h.f.same (k.old _ h.lnf s2), Nat.lt_of_lt_of_le h.lna k.n, Nat.lt_of_lt_of_le h.lnf k.n, h.ne, h.len, h.lt⟩
theorem Two.ext {M M' : MH} {na nf : Nat} {N : List Bool} {F : List Nat} (h : Two M na nf N F) (k : Ext M M') : Two M' na nf N F := h.chg (S := fun _ => False) (.of k) id id
def tw (na nf n : Nat) : List MV := [.sl na 0 n 0, .sl nf 0 n 0]
theorem rowU_any {M : MH} {na nf : Nat} {N : List Bool} {F : List Nat} {v : MV} {l : List Int} (h : Two M na nf N F) (hv : IntRow M v l) (hs : ∀ s ∈ l, if s < 0 then (-1 - s).toNat < 64 ∧ -65 < s else s.toNat < F.length) (hlo : M.lo ≤ M.n) (hll : l.length ≤ 9223372036854775807) :
  Cp fns 72 [.ag (tw na nf F.length), v] M fun m M' => m = .tp [.i .u64 ((rowK N F l : Nat) : Int), .b (allN N l)] ∧ Ext M M' := by
 obtain ⟨v1, v2⟩ := hv.sl
 refine Cp_call (fn := F72) (by kernel_rfl) (Nat.le_of_ble_eq_true rfl) ?_
 show Wp fns B72 (T.set q1 (some v) (T.set q0 (some (.ag (tw na nf F.length))) T.lf)) M _
 unfold B72 tw
 simp (disch := try exact dz) only [↓bxD, bA, simprocAttr, v2]
 generalize hM1 : M.push _ = M1
 have g0 : M1.get M.n = some (.cs false 2 (ofL [.sl na 0 F.length 0, .sl nf 0 F.length 0] 0)) := by rw [← hM1]; exact push_new _
 have x1 : Ext M M1 := by rw [← hM1]; exact .push M _
 have n1 : M1.n = M.n + 1 := by rw [← hM1]; rfl
 have l1 := x1.lo
 clear hM1
 have h1 := h.ext x1
 have hv1 := hv.ext x1
 obtain ⟨ta, a1, a2, a3, a4⟩ := bools_readA h1.a
 obtain ⟨tf, f1, f2, f3, f4⟩ := h1.f.read
 have hFlt : ∀ a, fAt F a < 2 ^ 64 := fAt_lt h.lt
 refine Wp_inv (σ := Nat × Nat) (fun p f M' => M' = M1 ∧ p.1 ≤ l.length ∧ p.2 < 2 ^ 64 ∧ rowK N F l = p.2 ||| rowK N F (l.drop p.1) ∧ allN N l = allN N (l.drop p.1) ∧ X.ev f (.t q2) = .p M.n 0 ∧ X.ev f (.t q6) = .i .u64 (p.2 : Int) ∧ X.ev f (.t q9) = v ∧ X.ev f (.t q10) = .i .i64 (l.length : Int) ∧ X.ev f (.t q11) = .i .i64 (p.1 : Int)) (fun p => l.length - p.1) ?_ (0, 0) ?_
 ·rintro ⟨i, k⟩ f M' ⟨rfl, hi, hk, hK, hA, h2, h6, h9, h10, h11⟩
  simp only at hi hk hK hA h6 h11
  simp only [q2, q6, q9, q10, q11] at h2 h6 h9 h10 h11
  unfold L72_3
  by_cases hi' : i < l.length
  ·have d1 : decide ((i : Int) < (l.length : Int)) = true := decide_eq_true (by omega)
   obtain ⟨z, hz⟩ : ∃ z, l[i]? = some z := ⟨_, List.getElem?_eq_getElem hi'⟩
   obtain ⟨ro, s, c, hg, hid, hC⟩ := hv1.read hz
   have hsz := hs z (List.mem_of_getElem? hz)
   rw [rowK_drop hz] at hK
   rw [allN_drop hz] at hA
   by_cases hz0 : z < 0
   ·rw [if_pos hz0] at hK hsz
    have d2 : decide (z < 0) = true := decide_eq_true hz0
    have hone : oneN N z = false := by unfold oneN; rw [decide_eq_false (show ¬ 0 ≤ z by omega)]; rfl
    rw [hone, Bool.false_and] at hA
    obtain ⟨kn, hkn⟩ : ∃ kn : Nat, -1 - z = (kn : Int) := ⟨(-1 - z).toNat, by omega⟩
    rw [hkn, Int.toNat_natCast] at hK hsz
    have hw : Int.negSucc 0 - z = (kn : Int) := hkn
    have hor := or_u64 (a := k) (b := 2 ^ kn) hk (show 2 ^ kn < 2 ^ 64 from Nat.pow_lt_pow_right (by omega) (by omega))
    simp (disch := try exact dz) only [↓bxD, bA, simprocAttr, h10, h11, d1]
    show Wp fns K72_2 _ _ _
    unfold K72_2
    simp (disch := try exact dz) only [↓bxD, bA, reduceCtorEq, h6, h9, h11, d2, hg, hC, hw]
    refine bindP_call (only_any (k := kn) (by omega)) ?_
    rintro m M2 ⟨rfl, rfl⟩
    simp (disch := try exact dz) only [↓bxD, bA, simprocAttr, hor]
    exact ⟨by rw [hK, hA], x1⟩
   ·rw [if_neg hz0] at hK hsz
    have d2 : decide (z < 0) = false := decide_eq_false hz0
    obtain ⟨zn, rfl⟩ : ∃ n : Nat, z = n := ⟨z.toNat, by omega⟩
    rw [Int.toNat_natCast] at hK hsz
    have hone : oneN N (zn : Int) = bAt N zn := by unfold oneN; rw [Int.toNat_natCast]; unfold bAt; simp
    rw [hone] at hA
    have hor := or_u64 (a := k) (b := fAt F zn) hk (hFlt zn)
    have hCf := f2 zn hsz
    have hCa := a2 zn (by rw [h.len]; exact hsz)
    have hnn : ((zn : Int) < 0) = False := by simp
    cases hb : bAt N zn with
    | true =>
     rw [hb, if_pos rfl] at hK
     rw [hb, Bool.true_and] at hA
     rw [hb] at hCa
     simp (disch := try exact dz) only [↓bxD, bA, simprocAttr, h10, h11, d1]
     show Wp fns K72_2 _ _ _
     unfold K72_2
     simp (disch := try exact dz) only [↓bxD, bA, simprocAttr, h9, h11, d2, hg, hC]
     show Wp fns K72_0 _ _ _
     unfold K72_0
     simp (disch := try exact dz) only [↓bxD, bA, simprocAttr, h2, h6, g0, a1, f1, hCf, hCa, hor, ix_slc]
     show Wp fns K72_1 _ _ _
     unfold K72_1
     simp (disch := try exact dz) only [↓bxD, bA, simprocAttr, h2, h9, h10, h11]
     exact ⟨(i + 1, k ||| fAt F zn), by simp only; omega, by simp only; omega, Nat.or_lt_two_pow hk (hFlt zn), by rw [hK, Nat.or_assoc], hA, rfl, rfl⟩
    | false =>
     rw [hb, if_neg (by simp)] at hK
     rw [hb, Bool.false_and] at hA
     rw [hb] at hCa
     simp (disch := try exact dz) only [↓bxD, bA, simprocAttr, h10, h11, d1]
     show Wp fns K72_2 _ _ _
     unfold K72_2
     simp (disch := try exact dz) only [↓bxD, bA, simprocAttr, h9, h11, d2, hg, hC]
     show Wp fns K72_0 _ _ _
     unfold K72_0
     simp (disch := try exact dz) only [↓bxD, bA, simprocAttr, h2, h6, g0, a1, f1, hCf, hCa, hor, ix_slc]
     exact ⟨by rw [hK, hA], x1⟩
  ·have d1 : decide ((i : Int) < (l.length : Int)) = false := decide_eq_false (by omega)
   have hie : i = l.length := by omega
   subst hie
   rw [List.drop_length] at hK hA
   simp (disch := try exact dz) only [↓bxD, bA, simprocAttr, h10, h11, d1]
   show Wp fns K72_4 _ _ _
   unfold K72_4
   simp (disch := try exact dz) only [↓bxD, bA, simprocAttr, h6]
   exact ⟨by rw [hK, hA]; simp [rowK, allN], x1⟩
 ·refine ⟨rfl, Nat.zero_le _, by decide, by simp, by simp, ?_⟩
  exact ⟨by simp only [bA, reduceCtorEq], by simp only [bA, reduceCtorEq] <;> rfl, by simp only [bA, reduceCtorEq], by simp only [bA, reduceCtorEq], by simp only [bA, reduceCtorEq] <;> rfl⟩
theorem apart_st {i j sz id id' off off' : Nat} {x y z : X} {l : List (IOper × DK)} {n : Nat} {f : Fr} {hs : List MH} {d d' : Option Ky} {gd gd' : Option (Ky × Bool)} {kd : DK} (h1 : l[i]? = some (⟨d, gd, .st sz x y⟩, .md)) (h2 : l[j]? = some (⟨d', gd', .ld1 z⟩, kd)) (hx : X.ev f x = .p id' off') (hz : X.ev f z = .p id off) (hne : id' ≠ id) (hid : id < n) (hn : ∀ M ∈ hs, n ≤ M.n) : apartL [(i, j)] l n f hs = true := by
 unfold apartL
 have e1 : hs.all (fun M => Nat.ble n M.n) = true := List.all_eq_true.2 fun M hM => ble_t' (hn M hM)
 have e2 : apartB n (cidx (l.map (·.2)) i) hs (.st sz x y) (.ld1 z) f = true := by
  unfold apartB
  show (match (match X.ev f z with
   | .p id _ => some id
   | _ => none) with
   | some id => Nat.blt id n && ((match (match X.ev f x with
    | .p id _ => some (some id)
    | _ => none) with
    | some (some q) => !(q == id)
    | some none => true
    | none => false) || (Nat.blt (cidx (l.map (·.2)) i + 1) hs.length && sameO (atS hs (cidx (l.map (·.2)) i + 1) id) (atS hs (cidx (l.map (·.2)) i) id)))
   | none => false) = true
  rw [hz, hx]
  show (Nat.blt id n && (!(id' == id) || _)) = true
  rw [blt_t hid, show (id' == id) = false from by simpa using hne]
  rfl
 simp only [List.isEmpty_cons, Bool.false_or, List.all_cons, List.all_nil, h1, h2, e1, e2, Bool.and_true, Bool.true_and]
 rfl
def D41 : IC := .dreg 0 [(⟨some q41, none, .fa 1 (.t q4)⟩, .pu), (⟨some q42, none, .ld1 (.t q41)⟩, .rd 0), (⟨some q43, none, .mov (.t q1)⟩, .pu), (⟨some q44, none, .fa 0 (.t q4)⟩, .pu), (⟨some q45, none, .ld1 (.t q44)⟩, .rd 0), (⟨some q46, none, .mov (.t q1)⟩, .pu), (⟨some q47, none, .mov (.t q2)⟩, .pu), (⟨some q48, none, .mov (.t q3)⟩, .pu), (⟨some q49, none, .ixS 1 (.t q42) (.t q43)⟩, .pu), (⟨none, none, .st 1 (.t q49) (.t q47)⟩, .md)] [⟨some q50, none, .ixS 1 (.t q45) (.t q46)⟩, ⟨none, none, .st 1 (.t q50) (.t q48)⟩] [(9, 4)]
theorem add_tail {M1 : MH} {f : Fr} {na nf n0 a k' : Nat} {N : List Bool} {F : List Nat} {b' r : Bool} {P : MV → MH → Prop} (h : Two M1 na nf N F) (ha : a < F.length) (hlo : M1.lo ≤ M1.n) (ln : M1.lo ≤ na) (lf : M1.lo ≤ nf) (hn0 : n0 < M1.n) (e1 : na ≠ n0) (e2 : nf ≠ n0) (hk : k' < 2 ^ 64)
  (g0 : M1.get n0 = some (.cs false 2 (ofL [.sl na 0 F.length 0, .sl nf 0 F.length 0] 0))) (h1 : X.ev f (.t q1) = .i .i64 (a : Int)) (h2 : X.ev f (.t q2) = .i .u64 (k' : Int)) (h3 : X.ev f (.t q3) = .b b') (h4 : X.ev f (.t q4) = .p n0 0) (h9 : X.ev f (.t q9) = .b r)
  (hP : ∀ M', Chg (fun j => j = na ∨ j = nf) M1 M' → Two M' na nf (N.set a b') (F.set a k') → P (.b r) M') : Wp fns D41 f M1 (thenQ fns K73_0 (retQ F73 P)) := by
 have hal : a < N.length := by rw [h.len]; exact ha
 obtain ⟨ta, a1, a2, a3, a4⟩ := bools_readA h.a
 obtain ⟨tf, f1, f2, f3, f4⟩ := h.f.read
 have hHf := f3 a ha
 have hHa := a3 a hal
 have hna := h.lna
 have hnf := h.lnf
 have hne := h.ne
 simp only [q1, q2, q3, q4, q9] at h1 h2 h3 h4 h9
 unfold D41
 refine Wp_dreg_of hlo ?_
 have hS := stW_ok (n := 1) (id := nf) (off := a * 1) (sz := 1) (t := tf) (M := M1) (y := .i .u64 (k' : Int)) lf rfl hHf
 have hS2 : ∀ o, stW (M1.set nf o) 1 na (a * 1) (.b b') (some (.cs false 1 ta)) = _ := fun o => stW_ok (n := 1) (id := na) (off := a * 1) (sz := 1) (t := ta) (M := M1.set nf o) (y := .b b') ln rfl hHa
 simp (disch := try exact dz) only [↓bxD, bA, simprocAttr, g0, h1, h2, h3, h4, ix_slc, f1, hS, hS2, a1]
 refine ⟨apart_st (id' := nf) (id := n0) (x := .t q49) (z := .t q44) rfl rfl (by simp only [bA, reduceCtorEq] <;> rfl) (by simp only [bA, reduceCtorEq] <;> rfl) e2 hn0 ?_, ?_⟩
 ·intro M hM
  simp only [List.mem_cons, List.not_mem_nil, or_false] at hM
  rcases hM with rfl | rfl
  ·exact Nat.le_refl _
  ·exact Nat.le_refl _
 generalize hM2 : MH.set _ _ _ = M2
 have c2 : Chg (fun j => j = na ∨ j = nf) M1 M2 := by rw [← hM2]; exact ((Chg.refl _ M1).set _ (.inl (.inr rfl))).set _ (.inl (.inl rfl))
 have n2 : M2.n = M1.n := by rw [← hM2]; rfl
 have gA : M2.get na = some (.cs false 1 (setN [.b b'] (a * 1) ta)) := by rw [← hM2]; exact set_same _ _
 have gF : M2.get nf = some (.cs false 1 (setN [.i .u64 (k' : Int)] (a * 1) tf)) := by rw [← hM2, set_ne (Ne.symm hne)]; exact set_same _ _
 clear hM2
 show Wp fns K73_0 _ _ _
 unfold K73_0
 simp (disch := try exact dz) only [↓bxD, bA, simprocAttr, h9]
 refine hP M2 c2 ⟨⟨_, gA, a4 a b' hal⟩, ⟨_, gF, f4 a k' ha⟩, by omega, by omega, hne, by rw [List.length_set, List.length_set]; exact h.len, fun k hk' => ?_⟩
 rcases List.mem_or_eq_of_mem_set hk' with h' | h'
 ·exact h.lt k h'
 ·rw [h']; exact hk
theorem addU_any {M : MH} {na nf : Nat} {N : List Bool} {F : List Nat} {a k : Nat} {b : Bool} (h : Two M na nf N F) (ha : a < F.length) (hk : k < 2 ^ 64) (hlo : M.lo ≤ M.n) (ln : M.lo ≤ na) (lf : M.lo ≤ nf) :
  Cp fns 73 [.ag (tw na nf F.length), .i .i64 (a : Int), .i .u64 (k : Int), .b b] M fun m M' => m = .b (decide (k ||| fAt F a ≠ fAt F a) || ((b || bAt N a) != bAt N a)) ∧ Chg (fun j => j = na ∨ j = nf) M M' ∧ Two M' na nf (N.set a (b || bAt N a)) (F.set a (k ||| fAt F a)) := by
 have hal : a < N.length := by rw [h.len]; exact ha
 have hFlt : ∀ a, fAt F a < 2 ^ 64 := fAt_lt h.lt
 have hor := or_u64 hk (hFlt a)
 have hk2 : k ||| fAt F a < 2 ^ 64 := Nat.or_lt_two_pow hk (hFlt a)
 refine Cp_call (fn := F73) (by kernel_rfl) (Nat.le_of_ble_eq_true rfl) ?_
 show Wp fns B73 (T.set q3 (some (.b b)) (T.set q2 (some (.i .u64 (k : Int))) (T.set q1 (some (.i .i64 (a : Int))) (T.set q0 (some (.ag (tw na nf F.length))) T.lf)))) M _
 unfold B73 tw
 simp (disch := try exact dz) only [↓bxD, bA, simprocAttr]
 generalize hM1 : M.push _ = M1
 have g0 : M1.get M.n = some (.cs false 2 (ofL [.sl na 0 F.length 0, .sl nf 0 F.length 0] 0)) := by rw [← hM1]; exact push_new _
 have x1 : Ext M M1 := by rw [← hM1]; exact .push M _
 have n1 : M1.n = M.n + 1 := by rw [← hM1]; rfl
 have l1 := x1.lo
 clear hM1
 have h1 := h.ext x1
 obtain ⟨ta, a1, a2, a3, a4⟩ := bools_readA h1.a
 obtain ⟨tf, f1, f2, f3, f4⟩ := h1.f.read
 have hCf := f2 a ha
 have hCa := a2 a hal
 have hne := h.ne
 have hna := h.lna
 have hnf := h.lnf
 have hHf := f3 a ha
 have hHa := a3 a hal
 generalize hk' : k ||| fAt F a = k' at hor hk2
 generalize hv : bAt N a = x at hCa
 generalize hw : fAt F a = y at hCf hor hk'
 have hd : decide (((k' : Nat) : Int) ≠ (y : Int)) = decide (k' ≠ y) := by rw [decide_eq_decide]; omega
 have fin : ∀ M', Chg (fun j => j = na ∨ j = nf) M1 M' → Chg (fun j => j = na ∨ j = nf) M M' := fun M' h => ((Chg.of x1).trans h)
 cases hd1 : decide (k' ≠ y) with
 | true =>
  rw [hd1] at hd
  cases b with
  | true =>
   simp (disch := try exact dz) only [↓bxD, bA, simprocAttr, g0, f1, hCf, hor, ix_slc, hd]
   refine add_tail (b' := true) (r := true) (k' := k') h1 ha (by omega) (by omega) (by omega) (by omega) (by omega) (by omega) hk2 g0 (by simp only [bA, reduceCtorEq]) (by simp only [bA, reduceCtorEq]) (by simp only [bA, reduceCtorEq]) (by simp only [bA, reduceCtorEq]) (by simp only [bA, reduceCtorEq]) fun M' c t => ⟨rfl, fin M' c, t⟩
  | false =>
   simp (disch := try exact dz) only [↓bxD, bA, simprocAttr, g0, a1, f1, hCf, hCa, hor, ix_slc, hd]
   refine add_tail (b' := x) (r := true) (k' := k') h1 ha (by omega) (by omega) (by omega) (by omega) (by omega) (by omega) hk2 g0 (by simp only [bA, reduceCtorEq]) (by simp only [bA, reduceCtorEq]) (by simp only [bA, reduceCtorEq]) (by simp only [bA, reduceCtorEq]) (by simp only [bA, reduceCtorEq]) fun M' c t => ⟨rfl, fin M' c, t⟩
 | false =>
  rw [hd1] at hd
  cases b with
  | true =>
   simp (disch := try exact dz) only [↓bxD, bA, simprocAttr, g0, a1, f1, hCf, hCa, hor, ix_slc, hd]
   refine add_tail (b' := true) (r := true != x) (k' := k') h1 ha (by omega) (by omega) (by omega) (by omega) (by omega) (by omega) hk2 g0 (by simp only [bA, reduceCtorEq]) (by simp only [bA, reduceCtorEq]) (by simp only [bA, reduceCtorEq]) (by simp only [bA, reduceCtorEq]) (by simp only [bA, reduceCtorEq] <;> rfl) fun M' c t => ⟨by simp, fin M' c, t⟩
  | false =>
   simp (disch := try exact dz) only [↓bxD, bA, simprocAttr, g0, a1, f1, hCf, hCa, hor, ix_slc, hd]
   refine add_tail (b' := x) (r := x != x) (k' := k') h1 ha (by omega) (by omega) (by omega) (by omega) (by omega) (by omega) hk2 g0 (by simp only [bA, reduceCtorEq]) (by simp only [bA, reduceCtorEq]) (by simp only [bA, reduceCtorEq]) (by simp only [bA, reduceCtorEq]) (by simp only [bA, reduceCtorEq] <;> cases x <;> rfl) fun M' c t => ⟨by simp, fin M' c, t⟩
structure BgSt (M0 M : MH) (g : Gr) (vr vf vc vk : MV) (es : List (List MV)) (na nf ns : Nat) (N : List Bool) (F : List Nat) (f : Fr) : Prop where
 gr : GrAt M0 vr vf vc vk es g
 ok : GrOk g
 ext : Ext M0 M
 lo0 : M0.lo ≤ M0.n
 b0 : M.get M0.n = some (.cs false 7 (ofL (gcs g vr vf vc vk) 0))
 two : Two M na nf N F
 b2 : M.get (M0.n + 1) = some (.cs false 2 (ofL [.nils, .nils] 0))
 la : M0.n + 1 < na
 lf : M0.n + 1 < nf
 ls : M0.n + 1 < ns ∧ ns < M.n ∧ ns ≠ na ∧ ns ≠ nf
 len : F.length = g.names.toNat
 lt : ∀ k ∈ F, k < 2 ^ (g.kinds.toNat + 1)
 nsnd : NSnd g N
 fsnd : FSnd g F
 bs : M.get ns = some (.cs false 2 (ofL (tw na nf F.length) 0))
 fq1 : X.ev f (.t q1) = .p M0.n 0
 fq2 : X.ev f (.t q2) = .p (M0.n + 1) 0
 fq3 : X.ev f (.t q3) = .p ns 0
def BgPost (g : Gr) (M0 : MH) (m : MV) (M' : MH) : Prop := Ext M0 M' ∧ ∃ na nf N F, m = .ag (tw na nf F.length) ∧ Two M' na nf N F ∧ M0.n ≤ na ∧ M0.n ≤ nf ∧ NulVec g N ∧ F.length = g.names.toNat ∧ (∀ k ∈ F, k < 2 ^ (g.kinds.toNat + 1)) ∧ FstMat g (FM (g.kinds.toNat + 1) F)
theorem BgSt.chg {M0 M M' : MH} {g : Gr} {vr vf vc vk : MV} {es : List (List MV)} {na nf ns : Nat} {N : List Bool} {F : List Nat} {f f' : Fr} (h : BgSt M0 M g vr vf vc vk es na nf ns N F f) (k : Chg (fun j => j = na ∨ j = nf ∨ M.n ≤ j) M M') {N' : List Bool} {F' : List Nat} (ht : Two M' na nf N' F') (hl : F'.length = F.length) (h2 : ∀ k ∈ F', k < 2 ^ (g.kinds.toNat + 1)) (h3 : NSnd g N') (h4 : FSnd g F') (e1 : X.ev f' (.t q1) = X.ev f (.t q1)) (e2 : X.ev f' (.t q2) = X.ev f (.t q2)) (e3 : X.ev f' (.t q3) = X.ev f (.t q3)) : BgSt M0 M' g vr vf vc vk es na nf ns N' F' f' := by
 have hla := h.la
 have hlf := h.lf
 obtain ⟨s1, s2, s3, s4⟩ := h.ls
 have hn := h.ext.n
 exact ⟨h.gr, h.ok, ⟨Nat.le_trans hn k.n, k.lo.trans h.ext.lo, fun j hj => (k.old j (by omega) (by omega)).trans (h.ext.old j hj)⟩, h.lo0, (k.old _ (by omega) (by omega)).trans h.b0, ht, (k.old _ (by omega) (by omega)).trans h.b2, hla, hlf, ⟨s1, Nat.lt_of_lt_of_le s2 k.n, s3, s4⟩, by rw [hl]; exact h.len, h2, h3, h4, by rw [hl]; exact (k.old _ s2 (by omega)).trans h.bs, e1.trans h.fq1, e2.trans h.fq2, e3.trans h.fq3⟩
theorem begins_round {M0 M : MH} {g : Gr} {vr vf vc vk : MV} {es : List (List MV)} {na nf ns : Nat} {N : List Bool} {F : List Nat} {f : Fr} (h : BgSt M0 M g vr vf vc vk es na nf ns N F f) (h4 : X.ev f (.t q4) = .b false) (h18 : X.ev f (.t q18) = vr) (h19 : X.ev f (.t q19) = .i .i64 (g.rules.length : Int)) (h20 : X.ev f (.t q20) = .i .i64 0) (Q : Post)
  (hQ : ∀ f' M' N' F' more, BgSt M0 M' g vr vf vc vk es na nf ns N' F' f' → X.ev f' (.t q4) = .b more → big N' F' ≤ big N F → (more = true → big N' F' < big N F) → (more = false → ∀ r ∈ g.rules, BClosed N' F' r) → Q .norm f' M') :
  Wp fns (.loop L68_2) f M (blockQ 2 Q) := by
 obtain ⟨hr1, hr2⟩ := h.gr.rules.row.sl
 rw [h.gr.rules.len] at hr2
 refine Wp_inv (σ := Nat × List Bool × List Nat × Bool) (fun p f' M' => BgSt M0 M' g vr vf vc vk es na nf ns p.2.1 p.2.2.1 f' ∧ p.1 ≤ g.rules.length ∧ X.ev f' (.t q4) = .b p.2.2.2 ∧ X.ev f' (.t q18) = vr ∧ X.ev f' (.t q19) = .i .i64 (g.rules.length : Int) ∧ X.ev f' (.t q20) = .i .i64 (p.1 : Int) ∧ big p.2.1 p.2.2.1 ≤ big N F ∧ (p.2.2.2 = true → big p.2.1 p.2.2.1 < big N F) ∧ (p.2.2.2 = false → ∀ j r, j < p.1 → g.rules[j]? = some r → BClosed p.2.1 p.2.2.1 r)) (fun p => g.rules.length - p.1) ?_ (0, N, F, false) ?_
 ·rintro ⟨i, N1, F1, mo⟩ f1 M1 ⟨h, hi, h4, h18, h19, h20, hb1, hb2, hcl⟩
  simp only at h hi h4 h20 hb1 hb2 hcl
  have hq1 := h.fq1
  have hq3 := h.fq3
  simp only [q1, q3, q4, q18, q19, q20] at hq1 hq3 h4 h18 h19 h20
  have hn := h.ext.n
  have hlo := h.lo0
  have hl := h.ext.lo
  have hk40 := h.ok.k2
  have hk0 := h.ok.k1
  have hn40 := h.ok.n2
  have hrl := h.ok.rl
  obtain ⟨s1, s2, s3, s4⟩ := h.ls
  have hla := h.la
  have hlf := h.lf
  have hlna := h.two.lna
  have hlnf := h.two.lnf
  have hbs := h.bs
  have hlen := h.len
  unfold L68_2
  by_cases hi' : i < g.rules.length
  ·have d1 : decide ((i : Int) < (g.rules.length : Int)) = true := decide_eq_true (by omega)
   obtain ⟨x, hz⟩ : ∃ x, g.rules[i]? = some x := ⟨_, List.getElem?_eq_getElem hi'⟩
   have hmem := List.mem_of_getElem? hz
   have hleft := h.ok.left _ hmem
   have hsym := h.ok.sym _ hmem
   have hlen8 := h.ok.len _ hmem
   have hwf := h.gr.wf.rules _ hmem
   obtain ⟨a0, ar, a2⟩ := x
   simp only at hleft hsym hlen8 hwf
   obtain ⟨a, rfl⟩ : ∃ n : Nat, a0 = n := ⟨a0.toNat, by omega⟩
   obtain ⟨ua, hua, hura⟩ : ∃ u1, es[i]? = some [.i .i64 (a : Int), u1, .i .i64 a2] ∧ IntRow M0 u1 ar := h.gr.rules.get hz
   obtain ⟨hsu1, hsu2⟩ := hura.sl
   obtain ⟨ro, s, t, hg, hid, hat⟩ := (h.gr.ext h.ext).rules.row.read hua
   have hN : Ev.getN t 3 (soff vr + i * 3) = some [.i .i64 (a : Int), ua, .i .i64 a2] := hat.getN
   have hone : MV.one ua = true := isSl_one hsu1
   have hst : stOk 3 (.ag [.i .i64 (a : Int), ua, .i .i64 a2]) = true := by cases ua <;> first | rfl | cases hsu1
   have hG2 : ∀ n, Ev.getN (ofL (tw na nf n) 0) 2 0 = some (tw na nf n) := fun n => (at_ofL (tw na nf n)).getN
   simp (disch := try exact dz) only [↓bxD, bA, simprocAttr, h19, h20, d1]
   show Wp fns K68_1 _ _ _
   unfold K68_1
   simp (disch := try exact dz) only [↓bxD, bA, simprocAttr, hq3, h18, h20, hg, hN]
   generalize hM2 : (M1.push _).set M1.n _ = M2
   have x2 : Ext M1 M2 := by rw [← hM2]; exact (Ext.push M1 _).set _ (Nat.le_refl _)
   have n2 : M2.n = M1.n + 1 := by rw [← hM2]; rfl
   have l2 := x2.lo
   have g9 : M2.get M1.n = some (.cs false 3 (setN [.i .i64 (a : Int), ua, .i .i64 a2] 0 (ofL [.i .i64 0, .nils, .i .i64 0] 0))) := by rw [← hM2, set_same]
   have c9 : At (setN [.i .i64 (a : Int), ua, .i .i64 a2] 0 (ofL [.i .i64 0, .nils, .i .i64 0] 0)) 0 [.i .i64 (a : Int), ua, .i .i64 a2] := at_setN _ _ _
   generalize setN [.i .i64 (a : Int), ua, .i .i64 a2] 0 (ofL [.i .i64 0, .nils, .i .i64 0] 0) = cc at g9 c9
   clear hM2
   have cc0 : cget cc 0 = some (.i .i64 (a : Int)) := c9 0 _ rfl
   have cc1 : cget cc 1 = some ua := c9 1 _ rfl
   have hbs2 := (x2.old _ s2).trans hbs
   have hG2 := hG2 F1.length
   simp (disch := try exact dz) only [↓bxD, bA, simprocAttr, g9, cc1, hbs, hG2]
   refine bindP_call (rowU_any (h.two.ext x2) ((hura.ext h.ext).ext x2) (fun s hs => ?_) (by omega) (by omega)) ?_
   ·have hss := hsym s hs
    split
    ·rename_i hneg
     have := symB_neg hss hneg
     omega
    ·rename_i hneg
     have := symB_lt hss (by omega)
     omega
   rintro m M3 ⟨rfl, x3⟩
   have n3 := x3.n
   have l3 := x3.lo
   have hbs3 := (x3.old _ (by omega)).trans hbs2
   have g93 := (x3.old _ (by omega)).trans g9
   have hal : a < F1.length := by omega
   have hk64 : rowK N1 F1 ar < 2 ^ (g.kinds.toNat + 1) := rowK_lt h.lt fun s hs hneg => by have := symB_neg (hsym s hs) hneg; omega
   have hk64' : rowK N1 F1 ar < 2 ^ 64 := Nat.lt_of_lt_of_le hk64 (Nat.pow_le_pow_right (by omega) (by omega))
   simp (disch := try exact dz) only [↓bxD, bA, simprocAttr, hq3, g93, cc0, hbs3, hG2]
   refine bindP_call (addU_any ((h.two.ext x2).ext x3) hal hk64' (by omega) (by omega) (by omega)) ?_
   rintro m M4 ⟨rfl, c4, t4⟩
   obtain ⟨hs1, hs2⟩ := snd_add h.nsnd h.fsnd hmem (by simp only [Int.toNat_natCast]; rw [h.two.len]; exact hal) (by simp only [Int.toNat_natCast]; exact hal)
   simp only [Int.toNat_natCast] at hs1 hs2
   have hbig := big_add (N := N1) (F := F1) (a := a) (k := rowK N1 F1 ar) (b := allN N1 ar) (by rw [h.two.len]; exact hal) hal hk64' (fAt_lt h.two.lt a)
   simp only at hbig
   have cc : Chg (fun j => j = na ∨ j = nf ∨ M1.n ≤ j) M1 M4 := ((Chg.of x2).trans (Chg.of x3)).trans (c4.mono fun j _ hj => hj.elim .inl fun x => .inr (.inl x))
   have hlt4 : ∀ k ∈ F1.set a (rowK N1 F1 ar ||| fAt F1 a), k < 2 ^ (g.kinds.toNat + 1) := fun k hk => by
    rcases List.mem_or_eq_of_mem_set hk with h' | h'
    ·exact h.lt k h'
    ·rw [h']; exact Nat.or_lt_two_pow hk64 (fAt_lt h.lt a)
   cases hm : (decide (rowK N1 F1 ar ||| fAt F1 a ≠ fAt F1 a) || ((allN N1 ar || bAt N1 a) != bAt N1 a)) with
   | true =>
    simp (disch := try exact dz) only [↓bxD, bA, simprocAttr]
    show Wp fns K68_0 _ _ _
    unfold K68_0
    simp (disch := try exact dz) only [↓bxD, bA, simprocAttr, h18, h19, h20]
    have hlt : big (N1.set a (allN N1 ar || bAt N1 a)) (F1.set a (rowK N1 F1 ar ||| fAt F1 a)) < big N1 F1 := by
     rcases hbig with ⟨e1, e2, _⟩ | ⟨_, e⟩
     ·rw [e1, e2] at hm; simp at hm
     ·exact e
    refine ⟨(i + 1, N1.set a (allN N1 ar || bAt N1 a), F1.set a (rowK N1 F1 ar ||| fAt F1 a), true), by simp only; omega, h.chg cc t4 (by simp only [List.length_set]) hlt4 hs1 hs2 (by simp only [bA, reduceCtorEq, hq1]) (by simp only [bA, reduceCtorEq]) (by simp only [bA, reduceCtorEq, hq3]), by simp only; omega, rfl, rfl, by simp only; omega, fun _ => by simp only; omega, fun e => by cases e⟩
   | false =>
    simp (disch := try exact dz) only [↓bxD, bA, simprocAttr, h4]
    show Wp fns K68_0 _ _ _
    unfold K68_0
    simp (disch := try exact dz) only [↓bxD, bA, simprocAttr, h18, h19, h20]
    obtain ⟨m1, m2⟩ := Bool.or_eq_false_iff.1 hm
    have m1 : rowK N1 F1 ar ||| fAt F1 a = fAt F1 a := by simpa using m1
    have m2 : (allN N1 ar || bAt N1 a) = bAt N1 a := by simpa using m2
    have e1 : F1.set a (rowK N1 F1 ar ||| fAt F1 a) = F1 := by rw [m1]; exact set_self (fAt_at hal)
    have e2 : N1.set a (allN N1 ar || bAt N1 a) = N1 := by rw [m2]; exact set_self (bAt_at (by rw [h.two.len]; exact hal))
    rw [e1, e2] at t4
    refine ⟨(i + 1, N1, F1, mo), by simp only; omega, h.chg cc t4 rfl h.lt h.nsnd h.fsnd (by simp only [bA, reduceCtorEq, hq1]) (by simp only [bA, reduceCtorEq]) (by simp only [bA, reduceCtorEq, hq3]), by simp only; omega, rfl, rfl, hb1, hb2, fun e j r hj hr => ?_⟩
    by_cases hji : j = i
    ·subst hji
     rw [hz] at hr
     injection hr with hr
     subst hr
     exact closed_of (by simp only [Int.toNat_natCast]; exact m1) (by simp only [Int.toNat_natCast]; exact m2)
    ·exact hcl e j r (by simp only at hj; omega) hr
  ·have d1 : decide ((i : Int) < (g.rules.length : Int)) = false := decide_eq_false (by omega)
   simp (disch := try exact dz) only [↓bxD, bA, simprocAttr, h19, h20, d1]
   refine hQ _ _ N1 F1 mo (h.chg ((Chg.refl _ M1)) h.two rfl h.lt h.nsnd h.fsnd (by simp only [bA, reduceCtorEq, hq1]) (by simp only [bA, reduceCtorEq]) (by simp only [bA, reduceCtorEq, hq3])) (by simp only [bA, reduceCtorEq, h4]) hb1 hb2 fun e r hr => ?_
   obtain ⟨j, hj⟩ := List.getElem?_of_mem hr
   exact hcl e j r (by have := (List.getElem?_eq_some_iff.1 hj).1; omega) hj
 ·exact ⟨h, Nat.zero_le _, h4, h18, h19, h20, Nat.le_refl _, fun e => (by cases e), fun _ j r hj => by simp at hj⟩
theorem beginsOf_any {M0 : MH} {g : Gr} {vr vf vc vk : MV} {es : List (List MV)} (h : GrAt M0 vr vf vc vk es g) (hlo : M0.lo ≤ M0.n) (hok : GrOk g) : Cp fns 68 [.ag (gcs g vr vf vc vk)] M0 (BgPost g M0) := by
 have hG : ∀ l, l = gcs g vr vf vc vk → Ev.getN (ofL l 0) 7 0 = some (gcs g vr vf vc vk) := fun l e => by subst e; exact (at_ofL (gcs g vr vf vc vk)).getN
 have hG := hG [MV.i IntKind.i64 g.names, MV.i IntKind.i64 g.kinds, MV.i IntKind.i64 g.start, vr, vf, vc, vk] rfl
 refine Cp_call (fn := F68) (by kernel_rfl) (Nat.le_of_ble_eq_true rfl) ?_
 show Wp fns B68 (T.set q0 (some (.ag (gcs g vr vf vc vk))) T.lf) M0 _
 unfold B68
 rw [show gcs g vr vf vc vk = [MV.i IntKind.i64 g.names, MV.i IntKind.i64 g.kinds, MV.i IntKind.i64 g.start, vr, vf, vc, vk] from rfl]
 obtain ⟨nn, hnn⟩ : ∃ n : Nat, g.names = n := ⟨g.names.toNat, by have := hok.n1; omega⟩
 have hn40 := hok.n2
 simp (disch := try exact dz) only [↓bxD, bA, simprocAttr]
 generalize hM1 : MH.push _ _ = M1
 have g0 : M1.get M0.n = some (.cs false 7 (ofL [MV.i IntKind.i64 g.names, MV.i IntKind.i64 g.kinds, MV.i IntKind.i64 g.start, vr, vf, vc, vk] 0)) := by rw [← hM1, push_old (by show M0.n < M0.n + 1; omega)]; exact push_new _
 have g02 : M1.get (M0.n + 1) = some (.cs false 2 (ofL [.nils, .nils] 0)) := by rw [← hM1]; exact push_new (M := M0.push _) _
 have x1 : Ext M0 M1 := by rw [← hM1]; exact (Ext.push M0 _).trans (.push _ _)
 have n1 : M1.n = M0.n + 2 := by rw [← hM1]; rfl
 have l1 := x1.lo
 clear hM1
 refine Wp_dreg_of (by omega) ?_
 have g0' := g0
 rw [hnn] at hG g0
 rw [hnn]
 have hmk := fun (id : Nat) => mksF_ok (id := id) (sz := 1) (bytes := 1) (zs := [.b false]) (k := .i64) (k' := .i64) (n := nn) (by omega) (by omega)
 have hmk2 := fun (id : Nat) => mksF_ok (id := id) (sz := 1) (bytes := 8) (zs := [.i .u64 0]) (k := .i64) (k' := .i64) (n := nn) (by omega) (by omega)
 have ff : ∀ a b : Nat, fillM [(0, 1, MV.sl a 0 nn 0), (1, 1, MV.sl b 0 nn 0)] [.nils, .nils] = some [.sl a 0 nn 0, .sl b 0 nn 0] := fun _ _ => rfl
 simp (disch := try exact dz) only [↓bxD, bA, simprocAttr, g0, float_mks, hmk, hmk2, float_new, ff]
 rw [lateL_of (by rfl)]
 generalize hM2 : adoptM _ _ = M2
 obtain ⟨x2, n2, gN, gF, gS⟩ := adopt3 hM2
 have l2 := x2.lo
 have hS := stW_ok (n := 2) (id := M1.n + 2) (off := 0) (sz := 2) (t := ofL [.nils, .nils] 0) (M := M2) (y := .ag [.sl M1.n 0 nn 0, .sl (M1.n + 1) 0 nn 0]) (by omega) rfl (has_ofL _ _ _ (by decide))
 clear hM2
 simp (disch := try exact dz) only [↓bxD, bA, simprocAttr, gS, hS]
 show Wp fns K68_6 _ _ _
 unfold K68_6
 simp (disch := try exact dz) only [↓bxD, bA, simprocAttr]
 generalize hM3 : M2.set _ _ = M3
 have x3 : Ext M1 M3 := by rw [← hM3]; exact x2.set _ (by omega)
 have n3 : M3.n = M1.n + 3 := by rw [← hM3]; exact n2
 have gS3 : M3.get (M1.n + 2) = some (.cs false 2 (ofL (tw M1.n (M1.n + 1) nn) 0)) := by rw [← hM3, set_same]; rfl
 have gN3 : M3.get M1.n = some (.cs false 1 (ofL (zrow [.b false] nn) 0)) := by rw [← hM3, set_ne (by omega)]; exact gN
 have gF3 : M3.get (M1.n + 1) = some (.cs false 1 (ofL (zrow [.i .u64 0] nn) 0)) := by rw [← hM3, set_ne (by omega)]; exact gF
 have l3 := x3.lo
 clear hM3
 have hk40 := hok.k2
 have hk0 := hok.k1
 have hN0 : nn = (List.replicate nn false).length := by rw [List.length_replicate]
 have hF0 : nn = (List.replicate nn 0).length := by rw [List.length_replicate]
 have hb0 : ∀ a, bAt (List.replicate nn false) a = false := fun a => by
  unfold bAt
  rw [List.getD_eq_getElem?_getD, List.getElem?_replicate]
  split <;> rfl
 have hf0 : ∀ a, fAt (List.replicate nn 0) a = 0 := fun a => by
  unfold fAt
  rw [List.getD_eq_getElem?_getD, List.getElem?_replicate]
  split <;> rfl
 have t0 : Two M3 M1.n (M1.n + 1) (List.replicate nn false) (List.replicate nn 0) := ⟨⟨_, gN3, by rw [List.map_replicate, ← zrow_rep]; exact at_ofL _⟩, ⟨_, gF3, by rw [List.map_replicate]; show At (ofL (zrow [MV.i .u64 0] nn) 0) 0 (List.replicate nn (MV.i .u64 ((0 : Nat) : Int))); rw [← zrow_rep]; exact at_ofL _⟩, by omega, by omega, by omega, by rw [← hN0, ← hF0], fun k hk => by rw [(List.mem_replicate.1 hk).2]; decide⟩
 refine Wp_inv (σ := List Bool × List Nat × Bool) (fun p f' M' => BgSt M0 M' g vr vf vc vk es M1.n (M1.n + 1) (M1.n + 2) p.1 p.2.1 f' ∧ X.ev f' (.t q4) = .b p.2.2 ∧ (p.2.2 = false → ∀ r ∈ g.rules, BClosed p.1 p.2.1 r)) (fun p => 2 * big p.1 p.2.1 + p.2.2.toNat) ?_ (List.replicate nn false, List.replicate nn 0, true) ?_
 ·rintro ⟨N, F, more⟩ f M ⟨h, h4, hcl⟩
  simp only at h h4 hcl
  have hq1 := h.fq1
  have hq3 := h.fq3
  have hb := h.b0
  unfold gcs at hb
  have hG := (at_ofL (gcs g vr vf vc vk)).getN
  obtain ⟨hr1, hr2⟩ := h.gr.rules.row.sl
  rw [h.gr.rules.len] at hr2
  simp only [q1, q3, q4] at hq1 hq3 h4
  unfold L68_4
  cases more with
  | true =>
   simp (disch := try exact dz) only [↓bxD, bA, simprocAttr, h4]
   show Wp fns K68_3 _ _ _
   unfold K68_3
   simp (disch := try exact dz) only [↓bxD, bA, simprocAttr, hq1, hb, hr2]
   refine begins_round (h.chg (Chg.refl _ M) h.two rfl h.lt h.nsnd h.fsnd (by simp only [bA, reduceCtorEq, hq1]) (by simp only [bA, reduceCtorEq]) (by simp only [bA, reduceCtorEq, hq3])) (by simp only [bA, reduceCtorEq, h4]) (by simp only [bA, reduceCtorEq]) (by simp only [bA, reduceCtorEq]) (by simp only [bA, reduceCtorEq]) _ fun f' M' N' F' more h' h4' hb1 hb2 hcl' => ?_
   refine ⟨(N', F', more), ?_, h', h4', hcl'⟩
   cases more with
   | true => have := hb2 rfl; simp only [Bool.toNat_true]; omega
   | false => simp only [Bool.toNat_true, Bool.toNat_false]; omega
  | false =>
   have hbs := h.bs
   have hq2 := h.fq2
   have hb2 := h.b2
   have hla := h.la
   have hlf := h.lf
   have hn := h.ext.n
   have hl := h.ext.lo
   have hS : ∀ n, stW M 2 (M0.n + 1) 0 (.ag (tw M1.n (M1.n + 1) n)) (some (.cs false 2 (ofL [.nils, .nils] 0))) = _ := fun n => stW_ok (n := 2) (id := M0.n + 1) (off := 0) (sz := 2) (M := M) (y := .ag (tw M1.n (M1.n + 1) n)) (by omega) rfl (has_ofL _ _ _ (by decide))
   have hcl2 : ∀ n, MV.cells (.ag (tw M1.n (M1.n + 1) n)) = tw M1.n (M1.n + 1) n := fun _ => rfl
   have hgt : ∀ n, Ev.getN (setN (tw M1.n (M1.n + 1) n) 0 (ofL [.nils, .nils] 0)) 2 0 = some (tw M1.n (M1.n + 1) n) := fun n => (at_setN (tw M1.n (M1.n + 1) n) 0 _).getN
   simp only [q2] at hq2
   have hq2' := slot_get hq2
   have hk40' := hok.k2
   have hG2 : Ev.getN (ofL (tw M1.n (M1.n + 1) F.length) 0) 2 0 = some (tw M1.n (M1.n + 1) F.length) := (at_ofL (tw M1.n (M1.n + 1) F.length)).getN
   simp (disch := try exact dz) only [↓bxD, bA, simprocAttr, h4]
   show Wp fns K68_5 _ _ _
   unfold K68_5
   simp (disch := try exact dz) only [↓bxD, bA, simprocAttr, hq2, hq2', hq3, hbs, hb2, hG2, hS, res_cN, cNV_p, cNo_cs, get_set, hcl2, hgt]
   have hcl' := hcl rfl
   have hNv := begins_vec (by rw [h.two.len]; exact h.len) h.nsnd hcl' hok
   refine ⟨h.ext.set _ (by omega), M1.n, M1.n + 1, N, F, rfl, h.two.chg (S := fun j => j = M0.n + 1) ((Chg.refl _ M).set _ (.inl rfl)) (by omega) (by omega), by omega, by omega, hNv, h.len, h.lt, begins_mat h.len hNv h.fsnd h.lt hcl' hok⟩
 ·refine ⟨⟨h, hok, x1.trans x3, hlo, (x3.old _ (by omega)).trans g0', t0, (x3.old _ (by omega)).trans g02, by omega, by omega, ⟨by omega, by omega, by omega, by omega⟩, by rw [← hF0, hnn]; simp, fun k hk => by rw [(List.mem_replicate.1 hk).2]; exact Nat.two_pow_pos _, fun a ha => (by rw [hb0] at ha; cases ha), fun a t ha => (by rw [hf0, Nat.zero_testBit] at ha; cases ha), by rw [← hF0]; exact gS3, by simp only [bA, reduceCtorEq], by simp only [bA, reduceCtorEq], by simp only [bA, reduceCtorEq]⟩, by simp only [bA, reduceCtorEq], fun e => by cases e⟩
def NulPost (g : Gr) (M : MH) (m : MV) (M' : MH) : Prop := Ext M M' ∧ (((formP g).2 ≠ 0 ∧ m = .nils) ∨ ((formP g).2 = 0 ∧ ∃ l, NulVec g l ∧ BRow M' m l))
theorem pnull_any {M : MH} {g : Gr} {vr vf vc vk : MV} {es : List (List MV)} (h : GrAt M vr vf vc vk es g) (hlo : M.lo ≤ M.n) : Cp fns 62 [.ag (gcs g vr vf vc vk)] M (NulPost g M) := by
 have hG : ∀ l, l = gcs g vr vf vc vk → Ev.getN (ofL l 0) 7 0 = some (gcs g vr vf vc vk) := fun l e => by subst e; exact (at_ofL (gcs g vr vf vc vk)).getN
 have hG := hG [MV.i IntKind.i64 g.names, MV.i IntKind.i64 g.kinds, MV.i IntKind.i64 g.start, vr, vf, vc, vk] rfl
 refine Cp_call (fn := F62) (by kernel_rfl) (Nat.le_of_ble_eq_true rfl) ?_
 show Wp fns B62 (T.set q0 (some (.ag (gcs g vr vf vc vk))) T.lf) M _
 unfold B62
 rw [show gcs g vr vf vc vk = [MV.i IntKind.i64 g.names, MV.i IntKind.i64 g.kinds, MV.i IntKind.i64 g.start, vr, vf, vc, vk] from rfl]
 generalize hM1 : M.push (.cs false 7 (ofL [MV.i IntKind.i64 g.names, MV.i IntKind.i64 g.kinds, MV.i IntKind.i64 g.start, vr, vf, vc, vk] 0)) = M1
 have g0 : M1.get M.n = some (.cs false 7 (ofL [MV.i IntKind.i64 g.names, MV.i IntKind.i64 g.kinds, MV.i IntKind.i64 g.start, vr, vf, vc, vk] 0)) := by rw [← hM1]; exact push_new _
 have x1 : Ext M M1 := by rw [← hM1]; exact .push M _
 have n1 : M1.n = M.n + 1 := by rw [← hM1]; rfl
 have l1 := x1.lo
 have fld0 : ∀ a b : MV, fld1V 0 (.ag [a, b]) = some a := fun _ _ => rfl
 have fld1 : ∀ a b : MV, fld1V 1 (.ag [a, b]) = some b := fun _ _ => rfl
 simp (disch := try exact dz) only [↓bxD, bA, simprocAttr, hG, hM1, g0]
 refine bindP_call (isForm_any (h.ext x1) (by omega)) ?_
 rintro m M2 ⟨rfl, x2⟩
 have n2 := x2.n
 have l2 := x2.lo
 have g2 := (x2.old _ (by omega)).trans g0
 by_cases hz : (formP g).2 = 0
 ·have dz : decide ((formP g).2 = 0) = true := decide_eq_true hz
  have hok := form_ok hz
  have hk40 := hok.k2
  have hk0 := hok.k1
  have hn40 := hok.n2
  simp (disch := try exact dz) only [↓bxD, bA, simprocAttr, dz]
  show Wp fns K62_0 _ _ _
  unfold K62_0
  simp (disch := try exact dz) only [↓bxD, bA, simprocAttr, hG, g2]
  refine bindP_call (beginsOf_any ((h.ext x1).ext x2) (by omega) hok) ?_
  rintro m M3 ⟨x3, na, nf, N, F, rfl, t, h1, h2, h3, h4, h5, h6⟩
  unfold tw
  simp (disch := try exact dz) only [↓bxD, bA, simprocAttr, fld0]
  have hr := t.a.row t.lna
  rw [t.len] at hr
  exact ⟨(x1.trans x2).trans x3, .inr ⟨hz, N, h3, hr⟩⟩
 ·have dz : decide ((formP g).2 = 0) = false := decide_eq_false hz
  simp (disch := try exact dz) only [↓bxD, bA, simprocAttr, dz]
  exact ⟨x1.trans x2, .inl ⟨hz, rfl⟩⟩
theorem words_new {M : MH} (n : Nat) : WordsAt (M.push (.cs false 1 (ofL (zrow [.i .u64 0] n) 0))) M.n (List.replicate n 0) := ⟨_, push_new _, by rw [List.map_replicate, ← zrow_rep]; exact at_ofL _⟩
structure OSt (M0 M : MH) (g : Gr) (vr vf vc vk : MV) (es : List (List MV)) (vn : MV) (N : List Bool) (id : Nat) (F : List Nat) (f : Fr) : Prop where
 gr : GrAt M0 vr vf vc vk es g
 ok : GrOk g
 ext : Ext M0 M
 lo0 : M0.lo ≤ M0.n
 nul : BRow M vn N
 nl : N.length = g.names.toNat
 ws : WordsAt M id F
 id1 : M0.n ≤ id
 id2 : id < M.n
 nid : sid vn ≠ id ∨ N = []
 len : F.length = g.names.toNat
 lt : ∀ k ∈ F, k < 2 ^ 64
 q3 : X.ev f (.t q3) = vn
 q4 : X.ev f (.t q4) = .sl id 0 F.length 0
def OneStep (g : Gr) (N : List Bool) (F : List Nat) (n : Nat) : Prop := ∀ i j, i < F.length → (fAt F i).testBit j = cyB N (g.rules.take n) i j
theorem one_set {g : Gr} {N : List Bool} {F : List Nat} {n a w : Nat} {ar : List Int} {dy : Int} (h : OneStep g N F n) (hr : g.rules[n]? = some ((a : Int), ar, dy)) (ha : a < F.length) (hw : ∀ j, w.testBit j = aloneB N ar ar.length j) : OneStep g N (F.set a (fAt F a ||| w)) (n + 1) := fun i j hi => by
 rw [List.length_set] at hi
 rw [fAt_set ha, cyB_take hr]
 by_cases e : a = i
 ·subst e
  rw [if_pos rfl, Nat.testBit_or, h a j hi, hw j, decide_eq_true rfl, Bool.true_and]
 ·rw [if_neg e, h i j hi, decide_eq_false (fun e' => e (by simp only at e'; omega)), Bool.false_and, Bool.or_false]
theorem oneStep_any {M : MH} {g : Gr} {vr vf vc vk : MV} {es : List (List MV)} (h : GrAt M vr vf vc vk es g) (hz : (formP g).2 = 0) (hlo : M.lo ≤ M.n) : Cp fns 50 [.ag (gcs g vr vf vc vk)] M fun m M' => Ext M M' ∧ ∃ id F N, m = .sl id 0 F.length 0 ∧ M.n ≤ id ∧ id < M'.n ∧ WordsAt M' id F ∧ F.length = g.names.toNat ∧ (∀ k ∈ F, k < 2 ^ 64) ∧ NulVec g N ∧ OneStep g N F g.rules.length := by
 have hG : ∀ l, l = gcs g vr vf vc vk → Ev.getN (ofL l 0) 7 0 = some (gcs g vr vf vc vk) := fun l e => by subst e; exact (at_ofL (gcs g vr vf vc vk)).getN
 have hG := hG [MV.i IntKind.i64 g.names, MV.i IntKind.i64 g.kinds, MV.i IntKind.i64 g.start, vr, vf, vc, vk] rfl
 have hok := form_ok hz
 have hn1 := hok.n1
 have hn40 := hok.n2
 have hrl := hok.rl
 obtain ⟨hr1, hr2⟩ := h.rules.row.sl
 rw [h.rules.len] at hr2
 obtain ⟨nn, hnn⟩ : ∃ n : Nat, g.names = n := ⟨g.names.toNat, by omega⟩
 refine Cp_call (fn := F50) (by kernel_rfl) (Nat.le_of_ble_eq_true rfl) ?_
 show Wp fns B50 (T.set q0 (some (.ag (gcs g vr vf vc vk))) T.lf) M _
 unfold B50
 rw [show gcs g vr vf vc vk = [MV.i IntKind.i64 g.names, MV.i IntKind.i64 g.kinds, MV.i IntKind.i64 g.start, vr, vf, vc, vk] from rfl]
 generalize hM1 : M.push (.cs false 7 (ofL [MV.i IntKind.i64 g.names, MV.i IntKind.i64 g.kinds, MV.i IntKind.i64 g.start, vr, vf, vc, vk] 0)) = M1
 have g0 : M1.get M.n = some (.cs false 7 (ofL [MV.i IntKind.i64 g.names, MV.i IntKind.i64 g.kinds, MV.i IntKind.i64 g.start, vr, vf, vc, vk] 0)) := by rw [← hM1]; exact push_new _
 have x1 : Ext M M1 := by rw [← hM1]; exact .push M _
 have n1 : M1.n = M.n + 1 := by rw [← hM1]; rfl
 have l1 := x1.lo
 simp (disch := try exact dz) only [↓bxD, bA, simprocAttr, hG, hM1, g0]
 refine bindP_call (pnull_any (h.ext x1) (by omega)) ?_
 rintro m M2 ⟨x2, ⟨hne, _⟩ | ⟨_, N, hN, hNr⟩⟩
 ·exact absurd hz hne
 have n2 := x2.n
 have l2 := x2.lo
 have g2 := (x2.old _ (by omega)).trans g0
 obtain ⟨m1, m2⟩ := hNr.sl
 have cg0 : cget (ofL [MV.i IntKind.i64 g.names, MV.i IntKind.i64 g.kinds, MV.i IntKind.i64 g.start, vr, vf, vc, vk] 0) 0 = some (.i .i64 (nn : Int)) := by rw [← hnn]; exact (at_ofL _) 0 _ rfl
 have cg3 : cget (ofL [MV.i IntKind.i64 g.names, MV.i IntKind.i64 g.kinds, MV.i IntKind.i64 g.start, vr, vf, vc, vk] 0) 3 = some vr := (at_ofL _) 3 _ rfl
 generalize ofL [MV.i IntKind.i64 g.names, MV.i IntKind.i64 g.kinds, MV.i IntKind.i64 g.start, vr, vf, vc, vk] 0 = cg at g2 cg0 cg3
 have hmk : mksF 1 8 [.i .u64 0] (.i .i64 (nn : Int)) (.i .i64 (nn : Int)) M2.n = some (.sl M2.n 0 nn 0, .cs false 1 (ofL (zrow [.i .u64 0] nn) 0)) := mksF_ok (by omega) (by omega)
 simp (disch := try exact dz) only [↓bxD, bA, simprocAttr, g2, cg0, cg3, hr2, ev_mks, mks_ok]
 generalize hM3 : M2.push _ = M3
 have w0 : WordsAt M3 M2.n (List.replicate nn 0) := by rw [← hM3]; exact words_new nn
 have x3 : Ext M2 M3 := by rw [← hM3]; exact .push M2 _
 have n3 : M3.n = M2.n + 1 := by rw [← hM3]; rfl
 have l3 := x3.lo
 clear hM3
 have hNl : N.length = nn := by rw [hN.1]; omega
 have hsid : sid m ≠ M2.n ∨ N = [] := by
  obtain ⟨_, ⟨_, e⟩ | ⟨id, off, e, ro, s, c, rfl, _, e4, _⟩⟩ := hNr
  ·exact .inr (List.map_eq_nil_iff.1 e)
  ·exact .inl (by show id ≠ _; omega)
 refine Wp_inv (σ := Nat × List Nat) (fun s f M' => s.1 ≤ g.rules.length ∧ OSt M M' g vr vf vc vk es m N M2.n s.2 f ∧ OneStep g N s.2 s.1 ∧ X.ev f (.t q13) = vr ∧ X.ev f (.t q14) = .i .i64 (g.rules.length : Int) ∧ X.ev f (.t q15) = .i .i64 (s.1 : Int)) (fun s => g.rules.length - s.1) ?_ (0, List.replicate nn 0) ?_
 ·rintro ⟨i, F⟩ f M4 ⟨hi, hst, hone, h13, h14, h15⟩
  simp only at hi hst hone h15
  have h3 := hst.q3
  have h4 := hst.q4
  simp only [q3, q4, q13, q14, q15] at h3 h4 h13 h14 h15
  have hx := hst.ext
  have xn := hx.n
  have xl := hx.lo
  have hid1 := hst.id1
  have hid2 := hst.id2
  have hFl := hst.len
  unfold L50_2
  by_cases hi' : i < g.rules.length
  ·have d1 : decide ((i : Int) < (g.rules.length : Int)) = true := decide_eq_true (by omega)
   obtain ⟨x, hzr⟩ : ∃ x, g.rules[i]? = some x := ⟨_, List.getElem?_eq_getElem hi'⟩
   have hmem := List.mem_of_getElem? hzr
   have hleft := hok.left _ hmem
   have hsym := hok.sym _ hmem
   have hlen8 := hok.len _ hmem
   obtain ⟨a0, ar, a2⟩ := x
   simp only at hleft hsym hlen8
   obtain ⟨a, rfl⟩ : ∃ n : Nat, a0 = n := ⟨a0.toNat, by omega⟩
   obtain ⟨ua, hua, hura⟩ : ∃ u1, es[i]? = some [.i .i64 (a : Int), u1, .i .i64 a2] ∧ IntRow M u1 ar := h.rules.get hzr
   obtain ⟨hsu1, hsu2⟩ := hura.sl
   obtain ⟨ro, s, t, hg, hid, hat⟩ := (h.ext hx).rules.row.read hua
   have hNn : Ev.getN t 3 (soff vr + i * 3) = some [.i .i64 (a : Int), ua, .i .i64 a2] := hat.getN
   have hst2 : stOk 3 (.ag [.i .i64 (a : Int), ua, .i .i64 a2]) = true := by cases ua <;> first | rfl | cases hsu1
   simp (disch := try exact dz) only [↓bxD, bA, simprocAttr, h14, h15, d1]
   show Wp fns K50_1 _ _ _
   unfold K50_1
   simp (disch := try exact dz) only [↓bxD, bA, simprocAttr, h13, h15, hg, hNn]
   generalize hM5 : (M4.push _).set M4.n _ = M5
   have x5 : Ext M4 M5 := by rw [← hM5]; exact (Ext.push M4 _).set _ (Nat.le_refl _)
   have n5 : M5.n = M4.n + 1 := by rw [← hM5]; rfl
   have l5 := x5.lo
   have g9 : M5.get M4.n = some (.cs false 3 (setN [.i .i64 (a : Int), ua, .i .i64 a2] 0 (ofL [.i .i64 0, .nils, .i .i64 0] 0))) := by rw [← hM5, set_same]
   have c9 : At (setN [.i .i64 (a : Int), ua, .i .i64 a2] 0 (ofL [.i .i64 0, .nils, .i .i64 0] 0)) 0 [.i .i64 (a : Int), ua, .i .i64 a2] := at_setN _ _ _
   generalize setN [.i .i64 (a : Int), ua, .i .i64 a2] 0 (ofL [.i .i64 0, .nils, .i .i64 0] 0) = cc at g9 c9
   clear hM5
   have cc0 : cget cc 0 = some (.i .i64 (a : Int)) := c9 0 _ rfl
   have cc1 : cget cc 1 = some ua := c9 1 _ rfl
   have hal : a < F.length := by omega
   have hws5 : WordsAt M5 M2.n F := hst.ws.same (x5.old _ hid2)
   obtain ⟨t5, ht1, ht2, ht3, ht4⟩ := hws5.read
   have hC5 := ht2 a hal
   refine Wp_dreg_of (by omega) ?_
   simp (disch := try exact dz) only [↓bxD, bA, simprocAttr, h3, h4, g9, cc0, cc1, ix_slc, ht1, hC5]
   have hnl4 : BRow M5 m N := hst.nul.ext x5
   have hur4 : IntRow M5 ua ar := (hura.ext hx).ext x5
   have hnl5 : BRow M5.lift m N := hnl4
   have hur5 : IntRow M5.lift ua ar := hur4
   refine bindP_call (alone_any hnl5 hur5 (fun s hs h0 => ?_) (by omega) (by omega) (Nat.le_refl _)) ?_
   ·have := symB_lt (hsym s hs) h0
    omega
   rintro m2 M6 ⟨⟨w, rfl, hw, hwb⟩, x6⟩
   have x56 := ext_dl x6
   have n6 := x56.n
   have l6 := x56.lo
   have hws6 : WordsAt (M6.down M5.lo) M2.n F := hws5.same (x56.old _ (by omega))
   obtain ⟨t6, hu1, hu2, hu3, hu4⟩ := hws6.read
   have hH6 := hu3 a hal
   have hC6 := hu2 a hal
   have hF := fAt_lt hst.lt a
   have hor := or_u64 (a := fAt F a) (b := w) hF hw
   rw [down_get] at hu1
   simp (disch := try exact dz) only [↓bxD, bA, simprocAttr, ix_slc, hu1, hor]
   show Wp fns K50_0 _ _ _
   unfold K50_0
   simp (disch := try exact dz) only [↓bxD, bA, simprocAttr, h13, h14, h15]
   have hnl6 : BRow (M6.down M5.lo) m N := hnl4.ext x56
   have x46 := x5.trans x56
   have hsA := hu4 a (fAt F a ||| w) hal
   generalize M6.down M5.lo = N6 at hnl6 hws6 x46 x56 n6 l6
   generalize hN7 : N6.set M2.n _ = N7
   have e7 : N7.n = N6.n := by rw [← hN7]; rfl
   have l7 : N7.lo = N6.lo := by rw [← hN7]; rfl
   refine ⟨(i + 1, F.set a (fAt F a ||| w)), by simp only; omega, by simp only; omega, ⟨h, hok, ⟨by omega, by omega, fun j hj => ?_⟩, hlo, ?_, hN.1, ⟨_, by rw [← hN7]; exact set_same _ _, hsA⟩, hid1, by omega, hsid, by simp only [List.length_set]; exact hst.len, fun k hk => ?_, by simp only [bA, reduceCtorEq, h3], by simp (disch := try exact dz) only [bA, simprocAttr, h4, List.length_set]⟩, one_set hone hzr hal hwb, rfl⟩
   ·rw [← hN7, set_ne (by omega), x56.old j (by omega), x5.old j (by omega)]
    exact hx.old j hj
   ·rcases hsid with hs | hs
    ·obtain ⟨q1', ⟨q2', q3'⟩ | ⟨id', off', e', ro', s', c', rfl, q4', q5', q6'⟩⟩ := hnl6
     ·exact ⟨q1', .inl ⟨q2', q3'⟩⟩
     ·refine ⟨q1', .inr ⟨id', off', e', ro', s', c', rfl, ?_, by omega, q6'⟩⟩
      rw [← hN7, set_ne (show id' ≠ M2.n from hs)]
      exact q4'
    ·subst hs
     obtain ⟨q1', ⟨q2', q3'⟩ | ⟨id', off', e', ro', s', c', rfl, q4', q5', q6'⟩⟩ := hnl6
     ·exact ⟨q1', .inl ⟨q2', q3'⟩⟩
     ·simp at hNl
      omega
   ·rcases List.mem_or_eq_of_mem_set hk with h' | h'
    ·exact hst.lt k h'
    ·rw [h']; exact Nat.or_lt_two_pow hF hw
  ·have d1 : decide ((i : Int) < (g.rules.length : Int)) = false := decide_eq_false (by omega)
   obtain rfl : i = g.rules.length := by omega
   simp (disch := try exact dz) only [↓bxD, bA, simprocAttr, h14, h15, d1]
   show Wp fns K50_3 _ _ _
   unfold K50_3
   simp (disch := try exact dz) only [↓bxD, bA, simprocAttr, h4]
   exact ⟨hx, M2.n, F, N, rfl, hid1, hid2, hst.ws, hst.len, hst.lt, hN, hone⟩
 ·refine ⟨Nat.zero_le _, ⟨h, hok, ((x1.trans x2).trans x3), hlo, hNr.ext x3, hN.1, w0, by omega, by omega, hsid, by rw [List.length_replicate, hnn]; rfl, fun k hk => by rw [(List.mem_replicate.1 hk).2]; decide, by simp only [bA, reduceCtorEq], ?_⟩, fun i j _ => ?_, by simp only [bA, reduceCtorEq], by simp only [bA, reduceCtorEq] <;> rfl, by simp only [bA, reduceCtorEq] <;> rfl⟩
  ·simp (disch := try exact dz) only [bA, simprocAttr]
   show MV.sl M2.n 0 nn 0 = _
   rw [List.length_replicate]
  ·rw [List.take_zero, cyB_nil]
   have : fAt (List.replicate nn 0) i = 0 := by unfold fAt; rw [List.getD_eq_getElem?_getD, List.getElem?_replicate]; split <;> rfl
   rw [this, Nat.zero_testBit]
def RelF (F : List Nat) (U : Nat → Nat → Bool) : Prop := ∀ i j, i < F.length → (fAt F i).testBit j = U i j
theorem anySteps_any {M : MH} {id : Nat} {F : List Nat} {U : Nat → Nat → Bool} (h : WordsAt M id F) (hid : id < M.n) (hlo : M.lo ≤ id) (hF : ∀ k ∈ F, k < 2 ^ 64) (hn : F.length ≤ 40) (hT : RelF F U) : Cp fns 51 [.sl id 0 F.length 0] M fun m M' => m = .tp [] ∧ (∀ j, j ≠ id → M'.get j = M.get j) ∧ M'.n = M.n ∧ M'.lo = M.lo ∧ ∃ F', WordsAt M' id F' ∧ F'.length = F.length ∧ (∀ k ∈ F', k < 2 ^ 64) ∧ RelF F' (cyIt U F.length) := by
 refine Cp_call (fn := F51) (by kernel_rfl) (Nat.le_of_ble_eq_true rfl) ?_
 show Wp fns B51 (T.set q0 (some (.sl id 0 F.length 0)) T.lf) M _
 unfold B51
 simp (disch := try exact dz) only [↓bxD, bA, simprocAttr, len_slc]
 refine Wp_inv (σ := Nat × List Nat) (fun s f M' => s.1 ≤ F.length ∧ WordsAt M' id s.2 ∧ s.2.length = F.length ∧ (∀ k ∈ s.2, k < 2 ^ 64) ∧ RelF s.2 (cyIt U s.1) ∧ (∀ j, j ≠ id → M'.get j = M.get j) ∧ M'.n = M.n ∧ M'.lo = M.lo ∧ X.ev f (.t q0) = .sl id 0 F.length 0 ∧ X.ev f (.t q5) = .i .i64 (F.length : Int) ∧ X.ev f (.t q6) = .i .i64 (s.1 : Int)) (fun s => F.length - s.1) ?_ (0, F) ?_
 ·rintro ⟨k, G⟩ f M1 ⟨hk, hw, hl, hG, hr, hold, hnn, hll, h0, h5, h6⟩
  simp only at hk hw hl hG hr h6
  simp only [q0, q5, q6] at h0 h5 h6
  unfold L51_5
  by_cases hk' : k < F.length
  ·have d1 : decide ((k : Int) < (F.length : Int)) = true := decide_eq_true (by omega)
   simp (disch := try exact dz) only [↓bxD, bA, simprocAttr, h5, h6, d1]
   show Wp fns K51_4 _ _ _
   unfold K51_4
   simp (disch := try exact dz) only [↓bxD, bA, simprocAttr, h0, h6, len_slc]
   refine Wp_inv (σ := Nat × List Nat) (fun s f M' => s.1 ≤ F.length ∧ WordsAt M' id s.2 ∧ s.2.length = F.length ∧ (∀ x ∈ s.2, x < 2 ^ 64) ∧ (∀ i j, i < F.length → (fAt s.2 i).testBit j = if i < s.1 then cyW (cyIt U k) k i j else cyIt U k i j) ∧ (∀ j, j ≠ id → M'.get j = M.get j) ∧ M'.n = M.n ∧ M'.lo = M.lo ∧ X.ev f (.t q0) = .sl id 0 F.length 0 ∧ X.ev f (.t q2) = .i .i64 (k : Int) ∧ X.ev f (.t q5) = .i .i64 (F.length : Int) ∧ X.ev f (.t q6) = .i .i64 (k : Int) ∧ X.ev f (.t q10) = .i .i64 (F.length : Int) ∧ X.ev f (.t q11) = .i .i64 (s.1 : Int)) (fun s => F.length - s.1) ?_ (0, G) ?_
   ·clear hw hl hG hr hold hnn hll h0 h5 h6
    rintro ⟨i, G⟩ f M1 ⟨hi, hw, hl, hG, hr, hold, hnn, hll, h0, h2, h5, h6, h10, h11⟩
    simp only at hi hw hl hG hr h11
    simp only [q0, q2, q5, q6, q10, q11] at h0 h2 h5 h6 h10 h11
    unfold L51_2
    by_cases hi' : i < F.length
    ·have d2 : decide ((i : Int) < (F.length : Int)) = true := decide_eq_true (by omega)
     obtain ⟨t, ht1, ht2, ht3, ht4⟩ := hw.read
     have hCi := ht2 i (by omega)
     have hCk := ht2 k (by omega)
     have hHi := ht3 i (by omega)
     have hFi := fAt_lt hG i
     have hFk := fAt_lt hG k
     have bi : ∀ j, (fAt G i).testBit j = cyIt U k i j := fun j => by rw [hr i j hi', if_neg (Nat.lt_irrefl _)]
     have bk : ∀ j, (fAt G k).testBit j = cyIt U k k j := fun j => by
      rw [hr k j hk']
      split
      ·exact cyW_via _ _ _
      ·rfl
     simp (disch := try exact dz) only [↓bxD, bA, simprocAttr, h10, h11, d2]
     show Wp fns K51_1 _ _ _
     unfold K51_1
     simp (disch := try exact dz) only [↓bxD, bA, simprocAttr, h0, h2, h11, ht1, hCi, ix_slc]
     refine bindP_call (has_any hFi (k := k) (by omega)) ?_
     rintro m M2 ⟨rfl, rfl⟩
     cases hb : (fAt G i).testBit k with
     | false =>
      simp (disch := try exact dz) only [↓bxD, bA, simprocAttr]
      show Wp fns K51_0 _ _ _
      unfold K51_0
      simp (disch := try exact dz) only [↓bxD, bA, simprocAttr, h0, h2, h5, h6, h10, h11]
      refine ⟨(i + 1, G), by simp only; omega, by simp only; omega, hw, hl, hG, fun x j hx => ?_, hold, hnn, hll, rfl⟩
      simp only
      by_cases e : x = i
      ·subst e
       rw [if_pos (Nat.lt_succ_self _), bi j]
       unfold cyW
       rw [← bi k, hb, Bool.false_and, Bool.or_false]
      ·rw [hr x j hx]
       by_cases e2 : x < i
       ·rw [if_pos e2, if_pos (by omega)]
       ·rw [if_neg e2, if_neg (by omega)]
     | true =>
      have hor := or_u64 (a := fAt G i) (b := fAt G k) hFi hFk
      simp (disch := try exact dz) only [↓bxD, bA, simprocAttr]
      refine Wp_dreg_of (by omega) ?_
      simp (disch := try exact dz) only [↓bxD, bA, simprocAttr, h0, h2, ht1, hCi, ix_slc, hCk, hor]
      show Wp fns K51_0 _ _ _
      unfold K51_0
      simp (disch := try exact dz) only [↓bxD, bA, simprocAttr, h0, h2, h5, h6, h10, h11]
      refine ⟨(i + 1, G.set i (fAt G i ||| fAt G k)), by simp only; omega, by simp only; omega, ⟨_, set_same _ _, ht4 i (fAt G i ||| fAt G k) (by omega)⟩, by simp only [List.length_set]; exact hl, fun x hx => ?_, fun x j hx => ?_, fun j hj => ?_, hnn, hll, rfl⟩
      ·rcases List.mem_or_eq_of_mem_set hx with h' | h'
       ·exact hG x h'
       ·rw [h']; exact Nat.or_lt_two_pow hFi hFk
      ·simp only
       rw [fAt_set (by omega)]
       by_cases e : i = x
       ·subst e
        rw [if_pos rfl, if_pos (Nat.lt_succ_self _), Nat.testBit_or, bi j, bk j]
        unfold cyW
        rw [← bi k, hb, Bool.true_and]
       ·rw [if_neg e, hr x j hx]
        by_cases e2 : x < i
        ·rw [if_pos e2, if_pos (by omega)]
        ·rw [if_neg e2, if_neg (by omega)]
      ·rw [set_ne hj]
       exact hold j hj
    ·have d2 : decide ((i : Int) < (F.length : Int)) = false := decide_eq_false (by omega)
     obtain rfl : i = F.length := by omega
     simp (disch := try exact dz) only [↓bxD, bA, simprocAttr, h10, h11, d2]
     show Wp fns K51_3 _ _ _
     unfold K51_3
     simp (disch := try exact dz) only [↓bxD, bA, simprocAttr, h0, h5, h6]
     refine ⟨(k + 1, G), by simp only; omega, by simp only; omega, hw, hl, hG, fun x j hx => ?_, hold, hnn, hll, rfl⟩
     simp only at hx ⊢
     rw [hr x j (by omega), if_pos (by omega)]
     rfl
   ·exact ⟨Nat.zero_le _, hw, hl, hG, fun i j hi => by simp only; rw [hr i j (by omega), if_neg (Nat.not_lt_zero _)], hold, hnn, hll, by simp only [bA, reduceCtorEq, h0], by simp only [bA, reduceCtorEq], by simp only [bA, reduceCtorEq, h5], by simp only [bA, reduceCtorEq, h6], by simp only [bA, reduceCtorEq] <;> rfl, by simp only [bA, reduceCtorEq] <;> rfl⟩
  ·have d1 : decide ((k : Int) < (F.length : Int)) = false := decide_eq_false (by omega)
   obtain rfl : k = F.length := by omega
   simp (disch := try exact dz) only [↓bxD, bA, simprocAttr, h5, h6, d1, resL]
   exact ⟨rfl, hold, hnn, hll, G, hw, hl, hG, hr⟩
 ·exact ⟨Nat.zero_le _, h, rfl, hF, hT, fun _ _ => rfl, rfl, rfl, by simp only [bA, reduceCtorEq], by simp only [bA, reduceCtorEq] <;> rfl, by simp only [bA, reduceCtorEq] <;> rfl⟩
theorem reach_in {M0 M : MH} {g : Gr} {vr vf vc vk : MV} {es : List (List MV)} {id : Nat} {l : List Bool} {f : Fr} (h : NSt M0 M g vr vf vc vk es id l f) {an : Nat} {a2 : Int} {ar : List Int} {ur : MV} {i n6 : Nat} {c : T MV} {more : Bool}
  (hr : ((an : Int), ar, a2) ∈ g.rules) (hn6 : n6 ≠ id) (hn7 : n6 < M.n) (hb6 : M.get n6 = some (.cs false 3 c)) (hC : At c 0 [.i .i64 an, ur, .i .i64 a2]) (hu : IntRow M0 ur ar)
  (h6 : X.ev f (.t q6) = .p n6 0) (h5 : X.ev f (.t q5) = .i .i64 (i : Int)) (h7 : X.ev f (.t q7) = .i .i64 0) (h4 : X.ev f (.t q4) = .b more) (hs : RchSound g l) (h00 : l[g.start.toNat]? = some true) (Q : Post)
  (hn : ∀ f' M' l' more', NSt M0 M' g vr vf vc vk es id l' f' → X.ev f' (.t q5) = .i .i64 (i : Int) → X.ev f' (.t q4) = .b more' → RchSound g l' → l'[g.start.toNat]? = some true → ((l' = l ∧ more' = more ∧ (l[an]? = some true → RchHas l ar)) ∨ (falses l' < falses l ∧ more' = true)) → Q .norm f' M') :
  Wp fns (.loop L40_2) f M (blockQ 4 Q) := by
 obtain ⟨hl0, hl1⟩ := h.ok.left _ hr
 have hsym := h.ok.sym _ hr
 have hlen := h.ok.len _ hr
 simp only at hl0 hl1 hsym hlen
 have hn40 := h.ok.n2
 have c0 : cget c 0 = some (.i .i64 an) := hC 0 _ rfl
 have c1 : cget c 1 = some ur := hC 1 _ rfl
 refine Wp_inv (σ := Nat × List Bool × Bool) (fun s f1 M1 => NSt M0 M1 g vr vf vc vk es id s.2.1 f1 ∧ s.1 ≤ ar.length ∧ X.ev f1 (.t q6) = .p n6 0 ∧ M1.get n6 = some (.cs false 3 c) ∧ n6 < M1.n ∧ X.ev f1 (.t q5) = .i .i64 (i : Int) ∧ X.ev f1 (.t q7) = .i .i64 (s.1 : Int) ∧ X.ev f1 (.t q4) = .b s.2.2 ∧ RchSound g s.2.1 ∧ s.2.1[g.start.toNat]? = some true ∧ ((s.2.1 = l ∧ s.2.2 = more ∧ (l[an]? = some true → RchHas l (ar.take s.1))) ∨ (falses s.2.1 < falses l ∧ s.2.2 = true))) (fun s => ar.length - s.1) ?_ (0, l, more) ?_
 ·rintro ⟨k, l1, m1⟩ f1 M1 ⟨h, hk, h6, hb6, hn7, h5, h7, h4, hs, h00, hc⟩
  simp only at h hk h6 hb6 hn7 h5 h7 h4 hs h00 hc
  have hu1 := hu.ext h.ext
  obtain ⟨hu3, hu4⟩ := hu1.sl
  obtain ⟨t, ht1, ht2, ht3, ht4⟩ := h.row.read
  have hll := h.len
  have hid2 := h.id2
  have hid1 := h.id1
  have hlo := h.lo0
  have hel := h.ext.lo
  have hq1 := h.q1
  have hq3 := h.q3
  simp only [q1, q3, q4, q5, q6, q7] at hq1 hq3 h4 h5 h6 h7
  have han : an < l1.length := by omega
  obtain ⟨ba, hba⟩ : ∃ x, l1[an]? = some x := ⟨_, List.getElem?_eq_getElem han⟩
  have hRa := ht2 _ _ hba
  unfold L40_2
  by_cases hk1 : k < ar.length
  ·have d1 : decide ((k : Int) < (ar.length : Int)) = true := decide_eq_true (by omega)
   cases ba with
   | true =>
    obtain ⟨z, hz⟩ : ∃ z, ar[k]? = some z := ⟨_, List.getElem?_eq_getElem hk1⟩
    obtain ⟨ro, s, tt, hg, hid, hZ⟩ := hu1.read hz
    have hzs := hsym z (List.mem_of_getElem? hz)
    have hhas : ∀ (x : List Bool), RchHas x (ar.take k) → (0 ≤ z → x[z.toNat]? = some true) → RchHas x (ar.take (k + 1)) := fun x h1 h2 y hy h0 => by
     rw [List.take_add_one, hz] at hy
     rcases List.mem_append.1 hy with h3 | h3
     ·exact h1 y h3 h0
     ·simp only [Option.toList_some, List.mem_singleton] at h3
      subst h3
      exact h2 h0
    by_cases z0 : 0 ≤ z
    ·have dz : decide (0 ≤ z) = true := decide_eq_true z0
     have hzl := symB_lt hzs z0
     obtain ⟨zn, rfl⟩ : ∃ n : Nat, z = n := ⟨z.toNat, by omega⟩
     have hzn : zn < l1.length := by omega
     obtain ⟨bz, hbz⟩ : ∃ x, l1[zn]? = some x := ⟨_, List.getElem?_eq_getElem hzn⟩
     have hR := ht2 _ _ hbz
     have hH := ht3 zn hzn
     simp only [Int.toNat_natCast] at hhas
     cases bz with
     | true =>
      simp (disch := try exact dzq) only [↓bxD, bA, simprocAttr, hq3, h6, h7, hb6, hu4, c0, c1, d1, hRa, ht1, ix_slc]
      show Wp fns K40_1 _ _ _
      unfold K40_1
      simp (disch := try exact dzq) only [↓bxD, bA, simprocAttr, hq3, h6, h7, hb6, c1, hg, hZ, dz, ht1, hR, ix_slc]
      show Wp fns K40_0 _ _ _
      unfold K40_0
      simp (disch := try exact dzq) only [↓bxD, bA, simprocAttr, h4, h5, h6, h7, hb6]
      refine ⟨(k + 1, l1, m1), by simp only; omega, ⟨h.gr, h.ok, h.ext, h.lo0, h.b0, h.id1, h.id2, h.row, h.len, ?_, ?_⟩, by simp only; omega, ?_⟩
      ·simp only [bA, reduceCtorEq, hq1]
      ·simp only [bA, reduceCtorEq, hq3]
      ·refine ⟨hn7, rfl, rfl, hs, h00, ?_⟩
       rcases hc with ⟨rfl, rfl, hc⟩ | hc
       ·exact .inl ⟨rfl, rfl, fun e => hhas _ (hc e) fun _ => hbz⟩
       ·exact .inr hc
     | false =>
      simp (disch := try exact dzq) only [↓bxD, bA, simprocAttr, hq3, h6, h7, hb6, hu4, c0, c1, d1, hRa, ht1, ix_slc]
      show Wp fns K40_1 _ _ _
      unfold K40_1
      simp (disch := try exact dzq) only [↓bxD, bA, simprocAttr, hq3, h6, h7, hb6, c1, hg, hZ, dz, ht1, hR, ix_slc]
      generalize hM2 : M1.set id _ = M2
      have hx2 : Ext M0 M2 := by rw [← hM2]; exact h.ext.set _ (by omega)
      have hrow2 : BoolsAt M2 id (l1.set zn true) := ⟨_, by rw [← hM2, set_same]; rfl, ht4 zn true hzn⟩
      have hb2 : M2.get M0.n = some (.cs false 7 (ofL (gcs g vr vf vc vk) 0)) := by rw [← hM2, set_ne (by omega)]; exact h.b0
      have hb62 : M2.get n6 = some (.cs false 3 c) := by rw [← hM2, set_ne (by omega)]; exact hb6
      have hn2 : M2.n = M1.n := by rw [← hM2]; rfl
      clear hM2
      show Wp fns K40_0 _ _ _
      unfold K40_0
      simp (disch := try exact dzq) only [↓bxD, bA, simprocAttr, h5, h6, h7]
      refine ⟨(k + 1, l1.set zn true, true), by simp only; omega, ⟨h.gr, h.ok, hx2, h.lo0, hb2, h.id1, by omega, hrow2, by rw [List.length_set]; exact h.len, ?_, ?_⟩, by simp only; omega, ?_⟩
      ·simp only [bA, reduceCtorEq, hq1]
      ·simp (disch := try exact dzq) only [bA, simprocAttr, hq3, List.length_set]
      ·refine ⟨hb62, by omega, rfl, rfl, ?_, set_true h00, .inr ⟨?_, rfl⟩⟩
       ·refine hs.set ?_
        have := Rch.step (g := g) _ hr (by simp only [Int.toNat_natCast]; exact hs an hba) zn (List.mem_of_getElem? hz) z0
        simpa using this
       ·have h1 := falses_set hbz
        rcases hc with ⟨rfl, _, _⟩ | ⟨h2, _⟩
        ·exact h1
        ·exact Nat.lt_trans h1 h2
    ·have dz : decide (0 ≤ z) = false := decide_eq_false z0
     simp (disch := try exact dzq) only [↓bxD, bA, simprocAttr, hq3, h6, h7, hb6, hu4, c0, c1, d1, hRa, ht1, ix_slc]
     show Wp fns K40_1 _ _ _
     unfold K40_1
     simp (disch := try exact dzq) only [↓bxD, bA, simprocAttr, h6, h7, hb6, c1, hg, hZ, dz]
     show Wp fns K40_0 _ _ _
     unfold K40_0
     simp (disch := try exact dzq) only [↓bxD, bA, simprocAttr, h4, h5, h6, h7, hb6]
     refine ⟨(k + 1, l1, m1), by simp only; omega, ⟨h.gr, h.ok, h.ext, h.lo0, h.b0, h.id1, h.id2, h.row, h.len, ?_, ?_⟩, by simp only; omega, ?_⟩
     ·simp only [bA, reduceCtorEq, hq1]
     ·simp only [bA, reduceCtorEq, hq3]
     ·refine ⟨hn7, rfl, rfl, hs, h00, ?_⟩
      rcases hc with ⟨rfl, rfl, hc⟩ | hc
      ·exact .inl ⟨rfl, rfl, fun e => hhas _ (hc e) fun h => absurd h z0⟩
      ·exact .inr hc
   | false =>
    simp (disch := try exact dzq) only [↓bxD, bA, simprocAttr, hq3, h6, h7, hb6, hu4, c0, c1, d1, hRa, ht1, ix_slc]
    refine hn _ _ l1 m1 ⟨h.gr, h.ok, h.ext, h.lo0, h.b0, h.id1, h.id2, h.row, h.len, ?_, ?_⟩ ?_ ?_ hs h00 ?_
    ·simp only [bA, reduceCtorEq, hq1]
    ·simp only [bA, reduceCtorEq, hq3]
    ·simp only [bA, reduceCtorEq, h5]
    ·simp only [bA, reduceCtorEq, h4]
    ·rcases hc with ⟨rfl, rfl, hc⟩ | hc
     ·exact .inl ⟨rfl, rfl, fun e => by rw [hba] at e; cases e⟩
     ·exact .inr hc
  ·have d1 : decide ((k : Int) < (ar.length : Int)) = false := decide_eq_false (by omega)
   have hkl : k = ar.length := by omega
   subst hkl
   rw [List.take_length] at hc
   simp (disch := try exact dzq) only [↓bxD, bA, simprocAttr, h6, h7, hb6, hu4, c1, d1]
   refine hn _ _ l1 m1 ⟨h.gr, h.ok, h.ext, h.lo0, h.b0, h.id1, h.id2, h.row, h.len, ?_, ?_⟩ ?_ ?_ hs h00 hc
   ·simp only [bA, reduceCtorEq, hq1]
   ·simp only [bA, reduceCtorEq, hq3]
   ·simp only [bA, reduceCtorEq, h5]
   ·simp only [bA, reduceCtorEq, h4]
 ·exact ⟨h, Nat.zero_le _, h6, hb6, hn7, h5, h7, h4, hs, h00, .inl ⟨rfl, rfl, fun _ s hs => by simp at hs⟩⟩
theorem reach_round {M0 M : MH} {g : Gr} {vr vf vc vk : MV} {es : List (List MV)} {id : Nat} {l0 : List Bool} {f : Fr} (h : NSt M0 M g vr vf vc vk es id l0 f) (hs : RchSound g l0) (h00 : l0[g.start.toNat]? = some true) (Q : Post)
  (hn : ∀ f' M' l' more, NSt M0 M' g vr vf vc vk es id l' f' → X.ev f' (.t q4) = .b more → RchSound g l' → l'[g.start.toNat]? = some true → ((more = true ∧ falses l' < falses l0) ∨ (more = false ∧ l' = l0 ∧ RchClosed l0 g.rules)) → Q .norm f' M') : Wp fns K40_6 f M Q := by
 unfold K40_6
 simp (disch := try exact dzq) only [↓bxD, bA, simprocAttr]
 refine Wp_inv (σ := Nat × List Bool × Bool) (fun s f1 M1 => NSt M0 M1 g vr vf vc vk es id s.2.1 f1 ∧ s.1 ≤ g.rules.length ∧ X.ev f1 (.t q5) = .i .i64 (s.1 : Int) ∧ X.ev f1 (.t q4) = .b s.2.2 ∧ RchSound g s.2.1 ∧ s.2.1[g.start.toNat]? = some true ∧ ((s.2.2 = true ∧ falses s.2.1 < falses l0) ∨ (s.2.2 = false ∧ s.2.1 = l0 ∧ RchClosed l0 (g.rules.take s.1)))) (fun s => g.rules.length - s.1) ?_ (0, l0, false) ?_
 ·rintro ⟨i, l, more⟩ f1 M1 ⟨h, hi, h5, h4, hs, h00, hc⟩
  simp only at h hi h5 h4 hs h00 hc
  have hq1 := h.q1
  have hq3 := h.q3
  have hbox := h.b0
  have hlo := h.lo0
  have hn0 := h.ext.n
  have hl0 := h.ext.lo
  have hid1 := h.id1
  have hid2 := h.id2
  obtain ⟨hr1, hr2⟩ := h.gr.rules.row.sl
  rw [h.gr.rules.len] at hr2
  unfold gcs at hbox
  have hrl := h.ok.rl
  simp only [q1, q3, q4, q5] at hq1 hq3 h4 h5
  unfold L40_5
  by_cases hi' : i < g.rules.length
  ·have d1 : decide ((i : Int) < (g.rules.length : Int)) = true := decide_eq_true (by omega)
   obtain ⟨r, hr⟩ : ∃ r, g.rules[i]? = some r := ⟨_, List.getElem?_eq_getElem hi'⟩
   obtain ⟨a0, ar, a2⟩ := r
   have hmem := List.mem_of_getElem? hr
   obtain ⟨ur, hu1, hu2⟩ := h.gr.rules.get hr
   have hrow := h.gr.rules.row.ext h.ext
   obtain ⟨ro3, s3, t3, hg3, hid3, hat3⟩ := hrow.read hu1
   have hN : Ev.getN t3 3 (soff vr + i * 3) = some [.i .i64 a0, ur, .i .i64 a2] := hat3.getN
   obtain ⟨hu3, hu4⟩ := hu2.sl
   have hu6 := isSl_one hu3
   have hst : stOk 3 (.ag [.i .i64 a0, ur, .i .i64 a2]) = true := by simp only [stOk, cells_ag, isU_ag, all_cons, all_nil, one_i, hu6]; rfl
   obtain ⟨ha0, ha1⟩ := h.ok.left _ hmem
   simp only at ha0 ha1
   obtain ⟨an, rfl⟩ : ∃ n : Nat, a0 = n := ⟨a0.toNat, by omega⟩
   have hll := h.len
   have han : an < l.length := by omega
   obtain ⟨t, ht1, ht2, ht3, ht4⟩ := h.row.read
   obtain ⟨bb, hbb⟩ : ∃ x, l[an]? = some x := ⟨_, List.getElem?_eq_getElem han⟩
   have hR := ht2 _ _ hbb
   simp (disch := try exact dzq) only [↓bxD, bA, simprocAttr, hq1, h5, hr2, hbox, d1]
   show Wp fns K40_4 _ _ _
   unfold K40_4
   simp (disch := try exact dzq) only [↓bxD, bA, simprocAttr, hq1, h5, hbox, hg3, hN]
   generalize hM2 : (M1.push _).set M1.n _ = M2
   have hx2 : Ext M1 M2 := by rw [← hM2]; exact (Ext.push M1 _).set _ (Nat.le_refl _)
   have h9 : M2.get M1.n = some (.cs false 3 (setN [.i .i64 (an : Int), ur, .i .i64 a2] 0 (ofL [.i .i64 0, .nils, .i .i64 0] 0))) := by rw [← hM2, set_same]
   have hn3 : M2.n = M1.n + 1 := by rw [← hM2]; rfl
   clear hM2
   refine reach_in (i := i) (more := more) ⟨h.gr, h.ok, h.ext.trans hx2, h.lo0, (hx2.old _ (by omega)).trans h.b0, h.id1, by omega, h.row.same (hx2.old _ hid2), h.len, ?_, ?_⟩ hmem (by omega) (by omega) h9 (at_setN _ _ _) hu2 (by simp only [bA, reduceCtorEq]) (by simp only [bA, reduceCtorEq, h5]) (by simp only [bA, reduceCtorEq]) (by simp only [bA, reduceCtorEq, h4]) hs h00 _ ?_
   ·simp only [bA, reduceCtorEq, hq1]
   ·simp only [bA, reduceCtorEq, hq3]
   intro f' M' l' more' h' h5' h4' hs' h00' hcase
   have h5q := h5'
   simp only [q5] at h5q
   simp (disch := try exact dzq) only [bA, simprocAttr]
   show Wp fns K40_3 _ _ _
   unfold K40_3
   simp (disch := try exact dzq) only [↓bxD, bA, simprocAttr, h5q]
   refine ⟨(i + 1, l', more'), by simp only; omega, ⟨h'.gr, h'.ok, h'.ext, h'.lo0, h'.b0, h'.id1, h'.id2, h'.row, h'.len, ?_, ?_⟩, by simp only; omega, rfl, ?_, ?_⟩
   ·have := h'.q1
    simp only [q1] at this
    simp (disch := try exact dzq) only [bA, simprocAttr, this]
   ·have := h'.q3
    simp only [q3] at this
    simp (disch := try exact dzq) only [bA, simprocAttr, this]
   ·exact h4'
   ·refine ⟨hs', h00', ?_⟩
    rcases hcase with ⟨rfl, rfl, hv⟩ | ⟨hv, rfl⟩
    ·rcases hc with hc | ⟨hc1, hc2, hc3⟩
     ·exact .inl hc
     ·refine .inr ⟨hc1, hc2, fun r hr' ha => ?_⟩
      rw [List.take_add_one, hr] at hr'
      rcases List.mem_append.1 hr' with h1 | h1
      ·exact hc3 r h1 ha
      ·simp only [Option.toList_some, List.mem_singleton] at h1
       subst h1
       subst hc2
       exact hv ha
    ·left
     refine ⟨rfl, ?_⟩
     rcases hc with ⟨_, hc⟩ | ⟨_, rfl, _⟩
     ·exact Nat.lt_trans hv hc
     ·exact hv
  ·have d1 : decide ((i : Int) < (g.rules.length : Int)) = false := decide_eq_false (by omega)
   have hi2 : i = g.rules.length := by omega
   subst hi2
   rw [List.take_length] at hc
   simp (disch := try exact dzq) only [↓bxD, bA, simprocAttr, hq1, h5, hr2, hbox, d1]
   refine hn _ _ l more ⟨h.gr, h.ok, h.ext, h.lo0, h.b0, h.id1, h.id2, h.row, h.len, ?_, ?_⟩ ?_ hs h00 hc
   ·simp only [bA, reduceCtorEq, hq1]
   ·simp only [bA, reduceCtorEq, hq3]
   ·simp only [bA, reduceCtorEq, h4]
 ·refine ⟨⟨h.gr, h.ok, h.ext, h.lo0, h.b0, h.id1, h.id2, h.row, h.len, ?_, ?_⟩, Nat.zero_le _, ?_, ?_, hs, h00, .inr ⟨rfl, rfl, ?_⟩⟩
  ·have := h.q1
   simp only [q1] at this
   simp (disch := try exact dzq) only [bA, simprocAttr, this]
  ·have := h.q3
   simp only [q3] at this
   simp (disch := try exact dzq) only [bA, simprocAttr, this]
  ·simp only [bA, reduceCtorEq] <;> rfl
  ·simp only [bA, reduceCtorEq]
  ·intro r hr; simp at hr
theorem reachable_any {M : MH} {g : Gr} {vr vf vc vk : MV} {es : List (List MV)} (h : GrAt M vr vf vc vk es g) (hlo : M.lo ≤ M.n) : Cp fns 40 [.ag (gcs g vr vf vc vk)] M fun m M' => Ext M M' ∧ (((formP g).2 ≠ 0 ∧ m = .nils) ∨ ((formP g).2 = 0 ∧ ∃ l, RchVec g l ∧ BRow M' m l)) := by
 have hG : ∀ l, l = gcs g vr vf vc vk → Ev.getN (ofL l 0) 7 0 = some (gcs g vr vf vc vk) := fun l e => by subst e; exact (at_ofL (gcs g vr vf vc vk)).getN
 have hG := hG [MV.i IntKind.i64 g.names, MV.i IntKind.i64 g.kinds, MV.i IntKind.i64 g.start, vr, vf, vc, vk] rfl
 refine Cp_call (fn := F40) (by kernel_rfl) (Nat.le_of_ble_eq_true rfl) ?_
 show Wp fns B40 (T.set q0 (some (.ag (gcs g vr vf vc vk))) T.lf) M _
 unfold B40
 rw [show gcs g vr vf vc vk = [MV.i IntKind.i64 g.names, MV.i IntKind.i64 g.kinds, MV.i IntKind.i64 g.start, vr, vf, vc, vk] from rfl]
 simp (disch := try exact dzq) only [↓bxD, bA, simprocAttr, hG]
 generalize hM1 : M.push _ = M1
 have hg0 : M1.get M.n = some (.cs false 7 (ofL (gcs g vr vf vc vk) 0)) := by rw [← hM1]; exact push_new _
 have hx1 : Ext M M1 := by rw [← hM1]; exact Ext.push M _
 have hn1 : M1.n = M.n + 1 := by rw [← hM1]; rfl
 have hl1 := hx1.lo
 clear hM1
 refine bindP_call (formed_any (h.ext hx1) (by omega)) ?_
 rintro m M2 ⟨rfl, hx2⟩
 have hn2 := hx2.n
 have hl2 := hx2.lo
 have hg2 := (hx2.old M.n (by omega)).trans hg0
 by_cases hz : (formP g).2 = 0
 ·have dz : decide ((formP g).2 = 0) = true := decide_eq_true hz
  have hok := form_ok hz
  obtain ⟨nn, hnn⟩ : ∃ n : Nat, g.names = n := ⟨g.names.toNat, by have := hok.n1; omega⟩
  have hn40 := hok.n2
  have hg3 := hg2
  unfold gcs at hg3
  obtain ⟨sn, hsn⟩ : ∃ n : Nat, g.start = n := ⟨g.start.toNat, by have := hok.s1; omega⟩
  have hs2 := hok.s2
  have hsl : sn < nn := by omega
  have hH : ∀ t, hasB (ofL (zrow [MV.b false] nn) 0) 1 (sn * 1) = t → hasB (ofL (zrow [MV.b false] nn) 0) 1 (sn * 1) = t := fun _ h => h
  have hH : hasB (ofL (zrow [MV.b false] nn) 0) 1 (sn * 1) = true := has_ofL _ _ _ (by rw [zrow_rep, List.length_replicate]; omega)
  simp (disch := try exact dzq) only [↓bxD, bA, simprocAttr, dz, hnn, hsn]
  show Wp fns K40_9 _ _ _
  unfold K40_9
  simp (disch := try exact dzq) only [↓bxD, bA, simprocAttr, hg3, hnn, hsn, ev_mks, mks_ok, ix_slc]
  obtain ⟨t, ht1, ht2, ht3, ht4⟩ := (BoolsAt.new (M := M2) nn).read
  rw [push_new] at ht1
  injection ht1 with ht1
  injection ht1 with _ _ ht1
  subst ht1
  have hrow0 := ht4 sn true (by rw [List.length_replicate]; exact hsl)
  generalize hM3 : (M2.push _).set M2.n _ = M3
  have hrow : BoolsAt M3 M2.n ((List.replicate nn false).set sn true) := ⟨_, by rw [← hM3, set_same]; rfl, hrow0⟩
  have hx3 : Ext M2 M3 := by rw [← hM3]; exact (Ext.push M2 _).set _ (Nat.le_refl _)
  have hn3 : M3.n = M2.n + 1 := by rw [← hM3]; rfl
  clear hM3
  refine Wp_inv (σ := List Bool × Bool) (fun s f1 M1 => NSt M M1 g vr vf vc vk es M2.n s.1 f1 ∧ X.ev f1 (.t q4) = .b s.2 ∧ RchSound g s.1 ∧ s.1[g.start.toNat]? = some true ∧ (s.2 = false → RchClosed s.1 g.rules)) (fun s => 2 * falses s.1 + (if s.2 = true then 1 else 0)) ?_ ((List.replicate nn false).set sn true, true) ?_
  ·rintro ⟨l, more⟩ f1 M4 ⟨h4, ht, hs, h00, hc⟩
   simp only at h4 ht hs h00 hc
   have hq1 := h4.q1
   have hq3 := h4.q3
   simp only [q1, q3, q4] at hq1 hq3 ht
   unfold L40_7
   cases more with
   | true =>
    simp (disch := try exact dzq) only [↓bxD, bA, simprocAttr, ht]
    show Wp fns K40_6 _ _ _
    refine reach_round ⟨h4.gr, h4.ok, h4.ext, h4.lo0, h4.b0, h4.id1, h4.id2, h4.row, h4.len, ?_, ?_⟩ hs h00 _ ?_
    ·simp only [bA, reduceCtorEq, hq1]
    ·simp only [bA, reduceCtorEq, hq3]
    intro f' M' l' more' h' h4' hs' h00' hcase
    refine ⟨(l', more'), ?_, h', h4', hs', h00', fun e => ?_⟩
    ·rcases hcase with ⟨rfl, hlt⟩ | ⟨rfl, rfl, _⟩
     ·simp only [if_true]; omega
     ·simp
    ·rcases hcase with ⟨rfl, _⟩ | ⟨_, rfl, hc'⟩
     ·cases e
     ·exact hc'
   | false =>
    simp (disch := try exact dzq) only [↓bxD, bA, simprocAttr, ht]
    show Wp fns K40_8 _ _ _
    unfold K40_8
    simp (disch := try exact dzq) only [↓bxD, bA, simprocAttr, hq3]
    refine ⟨h4.ext, .inr ⟨hz, l, rch_vec h4.len hs h00 (hc rfl), ?_⟩⟩
    exact h4.row.row h4.id2
  ·refine ⟨⟨h, hok, (hx1.trans hx2).trans hx3, hlo, (hx3.old _ (by omega)).trans hg2, by omega, by omega, hrow, by rw [List.length_set, List.length_replicate, hnn]; rfl, ?_, ?_⟩, ?_, fun a e => ?_, ?_, fun e => by cases e⟩
   ·simp only [bA, reduceCtorEq]
   ·simp (disch := try exact dzq) only [bA, simprocAttr, List.length_replicate, List.length_set]
   ·simp only [bA, reduceCtorEq]
   ·rw [List.getElem?_set] at e
    split at e
    ·rename_i e1
     subst e1
     have := Rch.start (g := g)
     rw [hsn] at this
     exact this
    ·rw [List.getElem?_replicate] at e
     split at e <;> cases e
   ·rw [hsn]
    exact set_here (by rw [List.length_replicate]; exact hsl)
 ·have dz : decide ((formP g).2 = 0) = false := decide_eq_false hz
  simp (disch := try exact dzq) only [↓bxD, bA, simprocAttr, dz]
  exact ⟨hx1.trans hx2, .inl hz⟩
theorem mark_any {M0 M : MH} {id : Nat} {l : List Bool} {ur : MV} {ar : List Int} (hB : BoolsAt M id l) (hx0 : Ext M0 M) (hu0 : IntRow M0 ur ar) (hid0 : M0.n ≤ id) (hid : id < M.n) (hlo : M.lo ≤ id) (hs : ∀ s ∈ ar, 0 ≤ s → s.toNat < l.length) (ha : ar.length ≤ 8) : Cp fns 48 [.sl id 0 l.length 0, ur] M fun m M' => ∃ l' b, m = .b b ∧ BoolsAt M' id l' ∧ l'.length = l.length ∧ M'.n = M.n ∧ M'.lo = M.lo ∧ (∀ j, j ≠ id → M'.get j = M.get j) ∧ ((b = false ∧ l' = l ∧ RchHas l ar) ∨ (b = true ∧ falses l' < falses l)) ∧ (∀ a : Nat, l'[a]? = some true → l[a]? = some true ∨ ∃ s ∈ ar, 0 ≤ s ∧ s.toNat = a) ∧ (∀ a : Nat, l[a]? = some true → l'[a]? = some true) := by
 obtain ⟨hu1, hu2⟩ := hu0.sl
 refine Cp_call (fn := F48) (by kernel_rfl) (Nat.le_of_ble_eq_true rfl) ?_
 show Wp fns B48 (T.set q1 (some ur) (T.set q0 (some (.sl id 0 l.length 0)) T.lf)) M _
 unfold B48
 simp (disch := try exact dzq) only [↓bxD, bA, simprocAttr, hu2]
 refine Wp_inv (σ := Nat × List Bool × Bool) (fun s f M' => s.1 ≤ ar.length ∧ X.ev f (.t q0) = .sl id 0 l.length 0 ∧ X.ev f (.t q8) = ur ∧ X.ev f (.t q9) = .i .i64 (ar.length : Int) ∧ X.ev f (.t q10) = .i .i64 (s.1 : Int) ∧ X.ev f (.t q5) = .b s.2.2 ∧ BoolsAt M' id s.2.1 ∧ s.2.1.length = l.length ∧ M'.n = M.n ∧ M'.lo = M.lo ∧ (∀ j, j ≠ id → M'.get j = M.get j) ∧ ((s.2.2 = false ∧ s.2.1 = l ∧ RchHas l (ar.take s.1)) ∨ (s.2.2 = true ∧ falses s.2.1 < falses l)) ∧ (∀ a : Nat, s.2.1[a]? = some true → l[a]? = some true ∨ ∃ s ∈ ar, 0 ≤ s ∧ s.toNat = a) ∧ (∀ a : Nat, l[a]? = some true → s.2.1[a]? = some true)) (fun s => ar.length - s.1) ?_ (0, l, false) ?_
 ·rintro ⟨k, l1, b⟩ f M1 ⟨hk, h0, h8, h9, h10, h5, hB, hL, hn, hl, ho, hc, hb, hm⟩
  simp only at hk h0 h8 h9 h10 h5 hB hL hc hb hm
  simp only [q0, q5, q8, q9, q10] at h0 h5 h8 h9 h10
  have hx : Ext M0 M1 := ⟨by have := hx0.n; omega, hl.trans hx0.lo, fun j hj => by rw [ho j (by omega)]; exact hx0.old j hj⟩
  have hu := hu0.ext hx
  unfold L48_2
  by_cases hk1 : k < ar.length
  ·have d1 : decide ((k : Int) < (ar.length : Int)) = true := decide_eq_true (by omega)
   obtain ⟨s, hsk⟩ : ∃ s, ar[k]? = some s := ⟨_, List.getElem?_eq_getElem hk1⟩
   obtain ⟨ro, sz, t, hg, hid', hC⟩ := hu.read hsk
   have hhas : ∀ (x : List Bool), RchHas x (ar.take k) → (0 ≤ s → x[s.toNat]? = some true) → RchHas x (ar.take (k + 1)) := fun x h1 h2 y hy h0 => by
    rw [List.take_add_one, hsk] at hy
    rcases List.mem_append.1 hy with h3 | h3
    ·exact h1 y h3 h0
    ·simp only [Option.toList_some, List.mem_singleton] at h3
     subst h3
     exact h2 h0
   by_cases s0 : 0 ≤ s
   ·have ds : decide (0 ≤ s) = true := decide_eq_true s0
    have hsl := hs s (List.mem_of_getElem? hsk) s0
    obtain ⟨sn, rfl⟩ : ∃ n : Nat, s = n := ⟨s.toNat, by omega⟩
    simp only [Int.toNat_natCast] at hsl hhas
    obtain ⟨bz, hbz⟩ : ∃ x, l1[sn]? = some x := ⟨_, List.getElem?_eq_getElem (by omega)⟩
    obtain ⟨tb, hb1, hb2, hb3, hb4⟩ := hB.read
    have hR := hb2 _ _ hbz
    have hH := hb3 sn (by omega)
    cases bz with
    | true =>
     simp (disch := try exact dzq) only [↓bxD, bA, simprocAttr, h9, h10, d1]
     show Wp fns K48_1 _ _ _
     unfold K48_1
     simp (disch := try exact dzq) only [↓bxD, bA, simprocAttr, h0, h8, h10, hg, hC, ds, ix_slc, hb1, hR]
     show Wp fns K48_0 _ _ _
     unfold K48_0
     simp (disch := try exact dzq) only [↓bxD, bA, simprocAttr, h0, h5, h8, h9, h10]
     refine ⟨(k + 1, l1, b), by simp only; omega, by simp only; omega, rfl, rfl, hB, hL, hn, hl, ho, ?_, hb, hm⟩
     rcases hc with ⟨h1, rfl, h2⟩ | hc
     ·exact .inl ⟨h1, rfl, hhas _ h2 fun _ => hbz⟩
     ·exact .inr hc
    | false =>
     simp (disch := try exact dzq) only [↓bxD, bA, simprocAttr, h9, h10, d1]
     show Wp fns K48_1 _ _ _
     unfold K48_1
     simp (disch := try exact dzq) only [↓bxD, bA, simprocAttr, h0, h8, h10, hg, hC, ds, ix_slc, hb1, hR]
     show Wp fns K48_0 _ _ _
     unfold K48_0
     simp (disch := try exact dzq) only [↓bxD, bA, simprocAttr, h0, h8, h9, h10]
     refine ⟨(k + 1, l1.set sn true, true), by simp only; omega, by simp only; omega, rfl, rfl, ⟨_, set_same _ _, hb4 sn _ (by omega)⟩, by rw [List.length_set]; exact hL, hn, hl, fun j hj => by rw [set_ne hj]; exact ho j hj, ?_, fun a e => ?_, fun a e => set_true (hm a e)⟩
     ·have h1 := falses_set hbz
      rcases hc with ⟨_, rfl, _⟩ | ⟨_, h2⟩
      ·exact .inr ⟨rfl, h1⟩
      ·exact .inr ⟨rfl, Nat.lt_trans h1 h2⟩
     ·rw [List.getElem?_set] at e
      by_cases e1 : sn = a
      ·subst e1
       exact .inr ⟨_, List.mem_of_getElem? hsk, s0, rfl⟩
      ·rw [if_neg e1] at e
       exact hb a e
   ·have ds : decide (0 ≤ s) = false := decide_eq_false s0
    simp (disch := try exact dzq) only [↓bxD, bA, simprocAttr, h9, h10, d1]
    show Wp fns K48_1 _ _ _
    unfold K48_1
    simp (disch := try exact dzq) only [↓bxD, bA, simprocAttr, h8, h10, hg, hC, ds]
    show Wp fns K48_0 _ _ _
    unfold K48_0
    simp (disch := try exact dzq) only [↓bxD, bA, simprocAttr, h0, h5, h8, h9, h10]
    refine ⟨(k + 1, l1, b), by simp only; omega, by simp only; omega, rfl, rfl, hB, hL, hn, hl, ho, ?_, hb, hm⟩
    rcases hc with ⟨h1, rfl, h2⟩ | hc
    ·exact .inl ⟨h1, rfl, hhas _ h2 fun h => absurd h s0⟩
    ·exact .inr hc
  ·have d1 : decide ((k : Int) < (ar.length : Int)) = false := decide_eq_false (by omega)
   have hkl : k = ar.length := by omega
   subst hkl
   rw [List.take_length] at hc
   simp (disch := try exact dzq) only [↓bxD, bA, simprocAttr, h9, h10, d1]
   show Wp fns K48_3 _ _ _
   unfold K48_3
   simp (disch := try exact dzq) only [↓bxD, bA, simprocAttr, h5]
   exact ⟨l1, b, rfl, hB, hL, hn, hl, ho, hc, hb, hm⟩
 ·exact ⟨Nat.zero_le _, by simp only [bA, reduceCtorEq], by simp only [bA, reduceCtorEq], by simp only [bA, reduceCtorEq], by simp only [bA, reduceCtorEq] <;> rfl, by simp only [bA, reduceCtorEq], hB, rfl, rfl, rfl, fun _ _ => rfl, .inl ⟨rfl, rfl, fun s hs => by simp at hs⟩, fun a e => .inl e, fun a e => e⟩
theorem preach_round {M0 M : MH} {g : Gr} {vr vf vc vk : MV} {es : List (List MV)} {id : Nat} {l0 : List Bool} {f : Fr} (h : NSt M0 M g vr vf vc vk es id l0 f) (hs : RchSound g l0) (h00 : l0[g.start.toNat]? = some true) (Q : Post)
  (hn : ∀ f' M' l' more, NSt M0 M' g vr vf vc vk es id l' f' → X.ev f' (.t q4) = .b more → RchSound g l' → l'[g.start.toNat]? = some true → ((more = true ∧ falses l' < falses l0) ∨ (more = false ∧ l' = l0 ∧ RchClosed l0 g.rules)) → Q .norm f' M') : Wp fns K35_3 f M Q := by
 have hq1 := h.q1
 have hq3 := h.q3
 have hbox := h.b0
 obtain ⟨hr1, hr2⟩ := h.gr.rules.row.sl
 rw [h.gr.rules.len] at hr2
 unfold gcs at hbox
 simp only [q1, q3] at hq1 hq3
 unfold K35_3
 simp (disch := try exact dzq) only [↓bxD, bA, simprocAttr, hq1, hbox, hr2]
 refine Wp_inv (σ := Nat × List Bool × Bool) (fun s f1 M1 => NSt M0 M1 g vr vf vc vk es id s.2.1 f1 ∧ s.1 ≤ g.rules.length ∧ X.ev f1 (.t q19) = vr ∧ X.ev f1 (.t q20) = .i .i64 (g.rules.length : Int) ∧ X.ev f1 (.t q21) = .i .i64 (s.1 : Int) ∧ X.ev f1 (.t q4) = .b s.2.2 ∧ RchSound g s.2.1 ∧ s.2.1[g.start.toNat]? = some true ∧ ((s.2.2 = true ∧ falses s.2.1 < falses l0) ∨ (s.2.2 = false ∧ s.2.1 = l0 ∧ RchClosed l0 (g.rules.take s.1)))) (fun s => g.rules.length - s.1) ?_ (0, l0, false) ?_
 ·rintro ⟨i, l, more⟩ f1 M1 ⟨h, hi, h14, h15, h16, h4, hs, h00, hc⟩
  simp only at h hi h14 h15 h16 h4 hs h00 hc
  clear hq1 hq3 hbox
  have hq1 := h.q1
  have hq3 := h.q3
  have hbox := h.b0
  have hlo := h.lo0
  have hn0 := h.ext.n
  have hl0 := h.ext.lo
  have hid1 := h.id1
  have hid2 := h.id2
  unfold gcs at hbox
  have hrl := h.ok.rl
  simp only [q1, q3, q4, q19, q20, q21] at hq1 hq3 h4 h14 h15 h16
  unfold L35_2
  by_cases hi' : i < g.rules.length
  ·have d1 : decide ((i : Int) < (g.rules.length : Int)) = true := decide_eq_true (by omega)
   obtain ⟨r, hr⟩ : ∃ r, g.rules[i]? = some r := ⟨_, List.getElem?_eq_getElem hi'⟩
   obtain ⟨a0, ar, a2⟩ := r
   have hmem := List.mem_of_getElem? hr
   obtain ⟨ur, hu1, hu2⟩ := h.gr.rules.get hr
   have hrow := h.gr.rules.row.ext h.ext
   obtain ⟨ro3, s3, t3, hg3, hid3, hat3⟩ := hrow.read hu1
   have hN : Ev.getN t3 3 (soff vr + i * 3) = some [.i .i64 a0, ur, .i .i64 a2] := hat3.getN
   obtain ⟨hu3, hu4⟩ := hu2.sl
   have hu6 := isSl_one hu3
   have hst : stOk 3 (.ag [.i .i64 a0, ur, .i .i64 a2]) = true := by simp only [stOk, cells_ag, isU_ag, all_cons, all_nil, one_i, hu6]; rfl
   obtain ⟨ha0, ha1⟩ := h.ok.left _ hmem
   have hsy := h.ok.sym _ hmem
   have hle := h.ok.len _ hmem
   simp only at ha0 ha1 hsy hle
   obtain ⟨an, rfl⟩ : ∃ n : Nat, a0 = n := ⟨a0.toNat, by omega⟩
   have hll := h.len
   have han : an < l.length := by omega
   obtain ⟨bb, hbb⟩ : ∃ x, l[an]? = some x := ⟨_, List.getElem?_eq_getElem han⟩
   simp (disch := try exact dzq) only [↓bxD, bA, simprocAttr, h15, h16, d1]
   show Wp fns K35_1 _ _ _
   unfold K35_1
   simp (disch := try exact dzq) only [↓bxD, bA, simprocAttr, hq3, h14, h16, hg3, hN]
   generalize hM2 : (M1.push _).set M1.n _ = M2
   have hx2 : Ext M1 M2 := by rw [← hM2]; exact (Ext.push M1 _).set _ (Nat.le_refl _)
   have h9 : M2.get M1.n = some (.cs false 3 (setN [.i .i64 (an : Int), ur, .i .i64 a2] 0 (ofL [.i .i64 0, .nils, .i .i64 0] 0))) := by rw [← hM2, set_same]
   have hn3 : M2.n = M1.n + 1 := by rw [← hM2]; rfl
   have hl2 := hx2.lo
   clear hM2
   have hC3 : At (setN [MV.i .i64 (an : Int), ur, .i .i64 a2] 0 (ofL [.i .i64 0, .nils, .i .i64 0] 0)) 0 [.i .i64 (an : Int), ur, .i .i64 a2] := at_setN _ _ _
   have c0 : cget (setN [MV.i .i64 (an : Int), ur, .i .i64 a2] 0 (ofL [.i .i64 0, .nils, .i .i64 0] 0)) 0 = some (.i .i64 (an : Int)) := hC3 0 _ rfl
   have c1 : cget (setN [MV.i .i64 (an : Int), ur, .i .i64 a2] 0 (ofL [.i .i64 0, .nils, .i .i64 0] 0)) 1 = some ur := hC3 1 _ rfl
   have hrow2 : BoolsAt M2 id l := h.row.same (hx2.old _ hid2)
   have hb2 : M2.get M0.n = some (.cs false 7 (ofL (gcs g vr vf vc vk) 0)) := (hx2.old _ (by omega)).trans h.b0
   obtain ⟨tb, hb1, hb3, hb4, hb5⟩ := hrow2.read
   have hR := hb3 _ _ hbb
   cases bb with
   | false =>
    simp (disch := try exact dzq) only [↓bxD, bA, simprocAttr, h4, ix_slc, hb1, hR]
    show Wp fns K35_0 _ _ _
    unfold K35_0
    simp (disch := try exact dzq) only [↓bxD, bA, simprocAttr, h14, h15, h16]
    refine ⟨(i + 1, l, more), by simp only; omega, ⟨h.gr, h.ok, h.ext.trans hx2, h.lo0, hb2, h.id1, by omega, hrow2, h.len, by simp only [bA, reduceCtorEq, hq1], by simp only [bA, reduceCtorEq, hq3]⟩, by simp only; omega, rfl, rfl, hs, h00, ?_⟩
    rcases hc with hc | ⟨hc1, hc2, hc3⟩
    ·exact .inl hc
    ·refine .inr ⟨hc1, hc2, fun r hr' ha => ?_⟩
     rw [List.take_add_one, hr] at hr'
     rcases List.mem_append.1 hr' with h1 | h1
     ·exact hc3 r h1 ha
     ·simp only [Option.toList_some, List.mem_singleton] at h1
      subst h1
      subst hc2
      rw [Int.toNat_natCast, hbb] at ha
      cases ha
   | true =>
    simp (disch := try exact dzq) only [↓bxD, bA, simprocAttr, hq3, h9, c1, ix_slc, hb1, hR]
    refine bindP_call (mark_any hrow2 (h.ext.trans hx2) hu2 (by omega) (by omega) (by rw [hl2, hl0]; omega) (fun s hs s0 => by have := symB_lt (hsy s hs) s0; omega) hle) ?_
    rintro m M3 ⟨l', b, rfl, hB3, hL3, hn4, hl4, ho4, hcase, hfrom, hkeep⟩
    have hx3 : Ext M0 M3 := ⟨by omega, by omega, fun j hj => by rw [ho4 j (by omega)]; exact (h.ext.trans hx2).old j hj⟩
    have hb6 : M3.get M0.n = some (.cs false 7 (ofL (gcs g vr vf vc vk) 0)) := by rw [ho4 _ (by omega)]; exact hb2
    have hs' : RchSound g l' := fun a e => by
     rcases hfrom a e with h1 | ⟨s, h1, h2, h3⟩
     ·exact hs a h1
     ·subst h3
      exact Rch.step (g := g) _ hmem (by simp only [Int.toNat_natCast]; exact hs an hbb) s h1 h2
    have h00' := hkeep _ h00
    cases b with
    | true =>
     simp (disch := try exact dzq) only [↓bxD, bA, simprocAttr]
     show Wp fns K35_0 _ _ _
     unfold K35_0
     simp (disch := try exact dzq) only [↓bxD, bA, simprocAttr, h14, h15, h16]
     refine ⟨(i + 1, l', true), by simp only; omega, ⟨h.gr, h.ok, hx3, h.lo0, hb6, h.id1, by omega, hB3, hL3.trans hll, by simp only [bA, reduceCtorEq, hq1], by simp (disch := try exact dzq) only [bA, simprocAttr, hq3, hL3]⟩, by simp only; omega, rfl, rfl, hs', h00', .inl ⟨rfl, ?_⟩⟩
     rcases hcase with ⟨e, _⟩ | ⟨_, h1⟩
     ·cases e
     ·rcases hc with ⟨_, hc⟩ | ⟨_, rfl, _⟩
      ·exact Nat.lt_trans h1 hc
      ·exact h1
    | false =>
     rcases hcase with ⟨_, rfl, hhas⟩ | ⟨e, _⟩
     ·simp (disch := try exact dzq) only [↓bxD, bA, simprocAttr, h4]
      show Wp fns K35_0 _ _ _
      unfold K35_0
      simp (disch := try exact dzq) only [↓bxD, bA, simprocAttr, h14, h15, h16]
      refine ⟨(i + 1, l', more), by simp only; omega, ⟨h.gr, h.ok, hx3, h.lo0, hb6, h.id1, by omega, hB3, hL3.trans hll, by simp only [bA, reduceCtorEq, hq1], by simp only [bA, reduceCtorEq, hq3]⟩, by simp only; omega, rfl, rfl, hs', h00', ?_⟩
      rcases hc with hc | ⟨hc1, hc2, hc3⟩
      ·exact .inl hc
      ·refine .inr ⟨hc1, hc2, fun r hr' ha => ?_⟩
       rw [List.take_add_one, hr] at hr'
       rcases List.mem_append.1 hr' with h1 | h1
       ·exact hc3 r h1 ha
       ·simp only [Option.toList_some, List.mem_singleton] at h1
        subst h1
        rw [← hc2]
        exact hhas
     ·cases e
  ·have d1 : decide ((i : Int) < (g.rules.length : Int)) = false := decide_eq_false (by omega)
   have hi2 : i = g.rules.length := by omega
   subst hi2
   rw [List.take_length] at hc
   simp (disch := try exact dzq) only [↓bxD, bA, simprocAttr, h15, h16, d1]
   exact hn _ _ l more ⟨h.gr, h.ok, h.ext, h.lo0, h.b0, h.id1, h.id2, h.row, h.len, by simp only [bA, reduceCtorEq, hq1], by simp only [bA, reduceCtorEq, hq3]⟩ (by simp only [bA, reduceCtorEq, h4]) hs h00 hc
 ·exact ⟨⟨h.gr, h.ok, h.ext, h.lo0, h.b0, h.id1, h.id2, h.row, h.len, by simp only [bA, reduceCtorEq, hq1], by simp only [bA, reduceCtorEq, hq3]⟩, Nat.zero_le _, by simp only [bA, reduceCtorEq], by simp only [bA, reduceCtorEq], by simp only [bA, reduceCtorEq] <;> rfl, by simp only [bA, reduceCtorEq], hs, h00, .inr ⟨rfl, rfl, fun r hr => by simp at hr⟩⟩
theorem preachable_any {M : MH} {g : Gr} {vr vf vc vk : MV} {es : List (List MV)} (h : GrAt M vr vf vc vk es g) (hlo : M.lo ≤ M.n) : Cp fns 35 [.ag (gcs g vr vf vc vk)] M fun m M' => Ext M M' ∧ (((formP g).2 ≠ 0 ∧ m = .nils) ∨ ((formP g).2 = 0 ∧ ∃ l, RchVec g l ∧ BRow M' m l)) := by
 have hG : ∀ l, l = gcs g vr vf vc vk → Ev.getN (ofL l 0) 7 0 = some (gcs g vr vf vc vk) := fun l e => by subst e; exact (at_ofL (gcs g vr vf vc vk)).getN
 have hG := hG [MV.i IntKind.i64 g.names, MV.i IntKind.i64 g.kinds, MV.i IntKind.i64 g.start, vr, vf, vc, vk] rfl
 refine Cp_call (fn := F35) (by kernel_rfl) (Nat.le_of_ble_eq_true rfl) ?_
 show Wp fns B35 (T.set q0 (some (.ag (gcs g vr vf vc vk))) T.lf) M _
 unfold B35
 rw [show gcs g vr vf vc vk = [MV.i IntKind.i64 g.names, MV.i IntKind.i64 g.kinds, MV.i IntKind.i64 g.start, vr, vf, vc, vk] from rfl]
 simp (disch := try exact dzq) only [↓bxD, bA, simprocAttr, hG]
 generalize hM1 : M.push _ = M1
 have hg0 : M1.get M.n = some (.cs false 7 (ofL (gcs g vr vf vc vk) 0)) := by rw [← hM1]; exact push_new _
 have hx1 : Ext M M1 := by rw [← hM1]; exact Ext.push M _
 have hn1 : M1.n = M.n + 1 := by rw [← hM1]; rfl
 have hl1 := hx1.lo
 clear hM1
 refine bindP_call (isForm_any (h.ext hx1) (by omega)) ?_
 rintro m M2 ⟨rfl, hx2⟩
 have hn2 := hx2.n
 have hl2 := hx2.lo
 have hg2 := (hx2.old M.n (by omega)).trans hg0
 by_cases hz : (formP g).2 = 0
 ·have dz : decide ((formP g).2 = 0) = true := decide_eq_true hz
  have hok := form_ok hz
  obtain ⟨nn, hnn⟩ : ∃ n : Nat, g.names = n := ⟨g.names.toNat, by have := hok.n1; omega⟩
  have hn40 := hok.n2
  have hg3 := hg2
  unfold gcs at hg3
  obtain ⟨sn, hsn⟩ : ∃ n : Nat, g.start = n := ⟨g.start.toNat, by have := hok.s1; omega⟩
  have hs2 := hok.s2
  have hsl : sn < nn := by omega
  have hH : ∀ t, hasB (ofL (zrow [MV.b false] nn) 0) 1 (sn * 1) = t → hasB (ofL (zrow [MV.b false] nn) 0) 1 (sn * 1) = t := fun _ h => h
  have hH : hasB (ofL (zrow [MV.b false] nn) 0) 1 (sn * 1) = true := has_ofL _ _ _ (by rw [zrow_rep, List.length_replicate]; omega)
  simp (disch := try exact dzq) only [↓bxD, bA, simprocAttr, dz, hnn, hsn]
  show Wp fns K35_6 _ _ _
  unfold K35_6
  simp (disch := try exact dzq) only [↓bxD, bA, simprocAttr, hg3, hnn, hsn, ev_mks, mks_ok, ix_slc]
  obtain ⟨t, ht1, ht2, ht3, ht4⟩ := (BoolsAt.new (M := M2) nn).read
  rw [push_new] at ht1
  injection ht1 with ht1
  injection ht1 with _ _ ht1
  subst ht1
  have hrow0 := ht4 sn true (by rw [List.length_replicate]; exact hsl)
  generalize hM3 : (M2.push _).set M2.n _ = M3
  have hrow : BoolsAt M3 M2.n ((List.replicate nn false).set sn true) := ⟨_, by rw [← hM3, set_same]; rfl, hrow0⟩
  have hx3 : Ext M2 M3 := by rw [← hM3]; exact (Ext.push M2 _).set _ (Nat.le_refl _)
  have hn3 : M3.n = M2.n + 1 := by rw [← hM3]; rfl
  clear hM3
  refine Wp_inv (σ := List Bool × Bool) (fun s f1 M1 => NSt M M1 g vr vf vc vk es M2.n s.1 f1 ∧ X.ev f1 (.t q4) = .b s.2 ∧ RchSound g s.1 ∧ s.1[g.start.toNat]? = some true ∧ (s.2 = false → RchClosed s.1 g.rules)) (fun s => 2 * falses s.1 + (if s.2 = true then 1 else 0)) ?_ ((List.replicate nn false).set sn true, true) ?_
  ·rintro ⟨l, more⟩ f1 M4 ⟨h4, ht, hs, h00, hc⟩
   simp only at h4 ht hs h00 hc
   have hq1 := h4.q1
   have hq3 := h4.q3
   simp only [q1, q3, q4] at hq1 hq3 ht
   unfold L35_4
   cases more with
   | true =>
    simp (disch := try exact dzq) only [↓bxD, bA, simprocAttr, ht]
    show Wp fns K35_3 _ _ _
    refine preach_round ⟨h4.gr, h4.ok, h4.ext, h4.lo0, h4.b0, h4.id1, h4.id2, h4.row, h4.len, ?_, ?_⟩ hs h00 _ ?_
    ·simp only [bA, reduceCtorEq, hq1]
    ·simp only [bA, reduceCtorEq, hq3]
    intro f' M' l' more' h' h4' hs' h00' hcase
    refine ⟨(l', more'), ?_, h', h4', hs', h00', fun e => ?_⟩
    ·rcases hcase with ⟨rfl, hlt⟩ | ⟨rfl, rfl, _⟩
     ·simp only [if_true]; omega
     ·simp
    ·rcases hcase with ⟨rfl, _⟩ | ⟨_, rfl, hc'⟩
     ·cases e
     ·exact hc'
   | false =>
    simp (disch := try exact dzq) only [↓bxD, bA, simprocAttr, ht]
    show Wp fns K35_5 _ _ _
    unfold K35_5
    simp (disch := try exact dzq) only [↓bxD, bA, simprocAttr, hq3]
    refine ⟨h4.ext, .inr ⟨hz, l, rch_vec h4.len hs h00 (hc rfl), ?_⟩⟩
    exact h4.row.row h4.id2
  ·refine ⟨⟨h, hok, (hx1.trans hx2).trans hx3, hlo, (hx3.old _ (by omega)).trans hg2, by omega, by omega, hrow, by rw [List.length_set, List.length_replicate, hnn]; rfl, ?_, ?_⟩, ?_, fun a e => ?_, ?_, fun e => by cases e⟩
   ·simp only [bA, reduceCtorEq]
   ·simp (disch := try exact dzq) only [bA, simprocAttr, List.length_replicate, List.length_set]
   ·simp only [bA, reduceCtorEq]
   ·rw [List.getElem?_set] at e
    split at e
    ·rename_i e1
     subst e1
     have := Rch.start (g := g)
     rw [hsn] at this
     exact this
    ·rw [List.getElem?_replicate] at e
     split at e <;> cases e
   ·rw [hsn]
    exact set_here (by rw [List.length_replicate]; exact hsl)
 ·have dz : decide ((formP g).2 = 0) = false := decide_eq_false hz
  simp (disch := try exact dzq) only [↓bxD, bA, simprocAttr, dz]
  exact ⟨hx1.trans hx2, .inl hz⟩
def shVal (l r : List Int) : Int := if shOk l r = true then shSum l r else -1
theorem shVal_cut (l r : List Int) : (if mostZ < shVal l r then mostZ else shVal l r) = shRow l r := by
 unfold shVal shRow
 split
 ·split <;> omega
 ·unfold mostZ
  rw [if_neg (by omega)]
theorem shVal_hi {l r : List Int} (hl : ∀ z ∈ l, -1 ≤ z ∧ z ≤ mostZ) : shVal l r ≤ mostZ * r.length := by
 have key : ∀ r : List Int, shSum l r ≤ mostZ * r.length := fun r => by
  induction r with
  | nil => exact Int.le_refl _
  | cons s r ih =>
   have := (shV_lo hl s).2
   unfold shSum at *
   rw [List.map_cons, List.sum_cons, List.length_cons]
   unfold mostZ at *
   omega
 unfold shVal
 split
 ·exact key r
 ·unfold mostZ; omega
theorem rrow_in {M : MH} {f : Fr} {l ar : List Int} {ur v1 : MV} {id n7 : Nat} {c : T MV} {b5 : Bool} {i6 : Int} (hI : IntsAt M id l) (hid : id < M.n) (hu : IntRow M ur ar) (hl : ∀ z ∈ l, -1 ≤ z ∧ z ≤ mostZ) (hs : ∀ s ∈ ar, 0 ≤ s → s.toNat < l.length) (ha : ar.length ≤ 8)
  (h7 : X.ev f (.t q7) = .p n7 0) (hb7 : M.get n7 = some (.cs false 3 c)) (c1 : cget c 1 = some ur) (h1 : X.ev f (.t q1) = v1) (h3 : X.ev f (.t q3) = .sl id 0 l.length 0) (h5 : X.ev f (.t q5) = .b b5) (h6 : X.ev f (.t q6) = .i .i64 i6) (h8 : X.ev f (.t q8) = .i .i64 0) (h9 : X.ev f (.t q9) = .i .i64 0) (Q : Post)
  (hn : ∀ f', X.ev f' (.t q7) = .p n7 0 → X.ev f' (.t q1) = v1 → X.ev f' (.t q3) = .sl id 0 l.length 0 → X.ev f' (.t q5) = .b b5 → X.ev f' (.t q6) = .i .i64 i6 → X.ev f' (.t q8) = .i .i64 (shVal l ar) → Q .norm f' M) : Wp fns (.loop L53_5) f M (blockQ 6 Q) := by
 obtain ⟨hu1, hu2⟩ := hu.sl
 obtain ⟨t, ht1, ht2, ht3, ht4⟩ := hI.read
 refine Wp_inv (σ := Nat) (fun k f M' => M' = M ∧ k ≤ ar.length ∧ X.ev f (.t q7) = .p n7 0 ∧ X.ev f (.t q1) = v1 ∧ X.ev f (.t q3) = .sl id 0 l.length 0 ∧ X.ev f (.t q5) = .b b5 ∧ X.ev f (.t q6) = .i .i64 i6 ∧ X.ev f (.t q8) = .i .i64 (shVal l (ar.take k)) ∧ X.ev f (.t q9) = .i .i64 (k : Int)) (fun k => ar.length - k) ?_ 0 ?_
 ·rintro k f M' ⟨rfl, hk, h7, h1, h3, h5, h6, h8, h9⟩
  have g7 := h7
  have g1 := h1
  have g3 := h3
  have g5 := h5
  have g6 := h6
  have g8 := h8
  simp only [q1, q3, q5, q6, q7, q8, q9] at h1 h3 h5 h6 h7 h8 h9
  unfold L53_5
  by_cases hk1 : k < ar.length
  ·have d1 : decide ((k : Int) < (ar.length : Int)) = true := decide_eq_true (by omega)
   cases hv : shOk l (ar.take k) with
   | true =>
    have hval : shVal l (ar.take k) = shSum l (ar.take k) := by unfold shVal; rw [hv]; rfl
    have hp := shSum_pos hv
    have hp2 := shVal_hi (r := ar.take k) hl
    rw [hval] at h8 hp2
    rw [List.length_take, Nat.min_eq_left (by omega)] at hp2
    have d2 : decide (0 ≤ shSum l (ar.take k)) = true := decide_eq_true hp
    obtain ⟨s, hsk⟩ : ∃ s, ar[k]? = some s := ⟨_, List.getElem?_eq_getElem hk1⟩
    obtain ⟨ro, sz, tt, hg, hid', hC⟩ := hu.read hsk
    have hvb := shV_lo hl s
    have ho2 := shOk_take (l := l) hsk
    have hs2' := shSum_take (l := l) hsk
    rw [hv, Bool.true_and] at ho2
    unfold mostZ at hvb hp2
    by_cases s0 : s < 0
    ·have ds : decide (s < 0) = true := decide_eq_true s0
     have hzv : shV l s = 1 := by unfold shV; rw [if_pos s0]
     rw [hzv] at ho2 hs2'
     have wa : wrapF .i64 (shSum l (ar.take k) + 1) = shSum l (ar.take k) + 1 := wrap_in (by omega) (by omega)
     simp (disch := try exact dzq) only [↓bxD, bA, simprocAttr, h7, h8, h9, hu2, hb7, c1, d1, d2]
     show Wp fns K53_4 _ _ _
     unfold K53_4
     simp (disch := try exact dzq) only [↓bxD, bA, simprocAttr, h7, h8, h9, hb7, c1, hg, hC, ds, wa]
     show Wp fns K53_3 _ _ _
     unfold K53_3
     simp (disch := try exact dzq) only [↓bxD, bA, simprocAttr, h1, h3, h5, h6, h7, h9]
     refine ⟨k + 1, by omega, by omega, congrArg (MV.i .i64) ?_, rfl⟩
     unfold shVal
     rw [ho2, hs2']
     rfl
    ·have ds : decide (s < 0) = false := decide_eq_false s0
     have hsl := hs s (List.mem_of_getElem? hsk) (by omega)
     obtain ⟨sn, rfl⟩ : ∃ n : Nat, s = n := ⟨s.toNat, by omega⟩
     simp only [Int.toNat_natCast] at hsl
     obtain ⟨z, hz⟩ : ∃ z, l[sn]? = some z := ⟨_, List.getElem?_eq_getElem hsl⟩
     have hR := ht2 _ _ hz
     have hzv : shV l (sn : Int) = z := by unfold shV; rw [if_neg s0, List.getD_eq_getElem?_getD, Int.toNat_natCast, hz]; rfl
     rw [hzv] at hvb ho2 hs2'
     by_cases z0 : z < 0
     ·have dz : decide (z < 0) = true := decide_eq_true z0
      have hnv : shVal l (ar.take (k + 1)) = -1 := by
       unfold shVal
       rw [ho2, decide_eq_false (by omega)]
       rfl
      simp (disch := try exact dzq) only [↓bxD, bA, reduceCtorEq, h7, h8, h9, hu2, hb7, c1, d1, d2]
      show Wp fns K53_4 _ _ _
      unfold K53_4
      simp (disch := try exact dzq) only [↓bxD, bA, reduceCtorEq, h3, h7, h9, hb7, c1, hg, hC, ds, ix_slc, ht1, hR, dz]
      show Wp fns K53_3 _ _ _
      unfold K53_3
      simp (maxSteps := 4000000) (disch := first | omega | assumption | (simp only [bxS, bxV, stOk, Nat.reduceBEq, Nat.reduceEqDiff, Nat.reduceAdd]; done) | (simp only [bxU]; omega) | ((try apply has_setN); apply has_ofL; simp only [bxL]; omega)) only [↓bxD, bxP, bxQ, reduceCtorEq, h1, h3, h5, h6, h7, h8, h9]
      exact ⟨k + 1, by omega, by omega, by rw [hnv]; rfl, rfl⟩
     ·have dz : decide (z < 0) = false := decide_eq_false z0
      have wa : wrapF .i64 (shSum l (ar.take k) + z) = shSum l (ar.take k) + z := wrap_in (by omega) (by omega)
      simp (disch := try exact dzq) only [↓bxD, bA, simprocAttr, h7, h8, h9, hu2, hb7, c1, d1, d2]
      show Wp fns K53_4 _ _ _
      unfold K53_4
      simp (disch := try exact dzq) only [↓bxD, bA, simprocAttr, h3, h7, h8, h9, hb7, c1, hg, hC, ds, ix_slc, ht1, hR, dz, wa]
      show Wp fns K53_3 _ _ _
      unfold K53_3
      simp (disch := try exact dzq) only [↓bxD, bA, simprocAttr, h1, h3, h5, h6, h7, h9]
      refine ⟨k + 1, by omega, by omega, congrArg (MV.i .i64) ?_, rfl⟩
      unfold shVal
      rw [ho2, hs2', decide_eq_true (show 0 ≤ z by omega)]
      rfl
   | false =>
    have hval : shVal l (ar.take k) = -1 := by unfold shVal; rw [hv]; rfl
    have hvl : shVal l ar = -1 := by unfold shVal; rw [shOk_le hv]; rfl
    rw [hval] at h8
    have d2 : decide ((0 : Int) ≤ -1) = false := rfl
    simp (disch := try exact dzq) only [↓bxD, bA, reduceCtorEq, h7, h8, h9, hu2, hb7, c1, d1, d2]
    exact hn _ (by simp only [bxP, bxQ, reduceCtorEq, h7]) (by simp only [bxP, bxQ, reduceCtorEq, h1]) (by simp only [bxP, bxQ, reduceCtorEq, h3]) (by simp only [bxP, bxQ, reduceCtorEq, h5]) (by simp only [bxP, bxQ, reduceCtorEq, h6]) (by simp (maxSteps := 4000000) (disch := first | omega | assumption | (simp only [bxS, bxV, stOk, Nat.reduceBEq, Nat.reduceEqDiff, Nat.reduceAdd]; done) | (simp only [bxU]; omega) | ((try apply has_setN); apply has_ofL; simp only [bxL]; omega)) only [bxP, bxQ, reduceCtorEq, h8, hvl])
  ·have d1 : decide ((k : Int) < (ar.length : Int)) = false := decide_eq_false (by omega)
   have hkl : k = ar.length := by omega
   subst hkl
   rw [List.take_length] at h8 g8
   simp (disch := try exact dzq) only [↓bxD, bA, simprocAttr, h7, h9, hu2, hb7, c1, d1]
   exact hn _ (by simp only [bA, reduceCtorEq, h7]) (by simp only [bA, reduceCtorEq, h1]) (by simp only [bA, reduceCtorEq, h3]) (by simp only [bA, reduceCtorEq, h5]) (by simp only [bA, reduceCtorEq, h6]) (by simp only [bA, reduceCtorEq, h8])
 ·exact ⟨rfl, Nat.zero_le _, h7, h1, h3, h5, h6, h8, h9⟩
theorem rshort_round {M0 M : MH} {g : Gr} {vr vf vc vk : MV} {es : List (List MV)} {id : Nat} {l0 : List Int} {f : Fr} (h : ISt M0 M g vr vf vc vk es id l0 f) (Q : Post)
  (hn : ∀ f' M' l' more, ISt M0 M' g vr vf vc vk es id l' f' → X.ev f' (.t q5) = .b more → l' = shRnd g.rules l0 → ((more = true ∧ shMu l' < shMu l0) ∨ (more = false ∧ l' = l0 ∧ ShStill g.rules l0)) → Q .norm f' M') : Wp fns K53_11 f M Q := by
 have hq1 := h.q1
 have hq3 := h.q3
 have hbox := h.b0
 obtain ⟨hr1, hr2⟩ := h.gr.rules.row.sl
 rw [h.gr.rules.len] at hr2
 unfold gcs at hbox
 simp only [q1, q3] at hq1 hq3
 unfold K53_11
 simp (disch := try exact dzq) only [↓bxD, bA, simprocAttr]
 refine Wp_inv (σ := Nat × List Int × Bool) (fun s f1 M1 => ISt M0 M1 g vr vf vc vk es id s.2.1 f1 ∧ s.1 ≤ g.rules.length ∧ X.ev f1 (.t q6) = .i .i64 (s.1 : Int) ∧ X.ev f1 (.t q5) = .b s.2.2 ∧ s.2.1 = shRnd (g.rules.take s.1) l0 ∧ ((s.2.2 = true ∧ shMu s.2.1 < shMu l0) ∨ (s.2.2 = false ∧ s.2.1 = l0 ∧ ShStill (g.rules.take s.1) l0))) (fun s => g.rules.length - s.1) ?_ (0, l0, false) ?_
 ·rintro ⟨i, l, more⟩ f1 M1 ⟨h, hi, h16, h4, hl, hc⟩
  simp only at h hi h16 h4 hl hc
  clear hq1 hq3 hbox
  have hq1 := h.q1
  have hq3 := h.q3
  have hbox := h.b0
  have hlo := h.lo0
  have hn0 := h.ext.n
  have hl0 := h.ext.lo
  have hid1 := h.id1
  have hid2 := h.id2
  unfold gcs at hbox
  have hrl := h.ok.rl
  simp only [q1, q3, q5, q6] at hq1 hq3 h4 h16
  unfold L53_10
  by_cases hi' : i < g.rules.length
  ·have d1 : decide ((i : Int) < (g.rules.length : Int)) = true := decide_eq_true (by omega)
   obtain ⟨r, hr⟩ : ∃ r, g.rules[i]? = some r := ⟨_, List.getElem?_eq_getElem hi'⟩
   have hrt := shRnd_take (l := l0) hr
   rw [← hl] at hrt
   obtain ⟨a0, ar, a2⟩ := r
   have hmem := List.mem_of_getElem? hr
   obtain ⟨ur, hu1, hu2⟩ := h.gr.rules.get hr
   have hrow := h.gr.rules.row.ext h.ext
   obtain ⟨ro3, s3, t3, hg3, hid3, hat3⟩ := hrow.read hu1
   have hN : Ev.getN t3 3 (soff vr + i * 3) = some [.i .i64 a0, ur, .i .i64 a2] := hat3.getN
   obtain ⟨hu3, hu4⟩ := hu2.sl
   have hu6 := isSl_one hu3
   have hst : stOk 3 (.ag [.i .i64 a0, ur, .i .i64 a2]) = true := by simp only [stOk, cells_ag, isU_ag, all_cons, all_nil, one_i, hu6]; rfl
   obtain ⟨ha0, ha1⟩ := h.ok.left _ hmem
   simp only at ha0 ha1
   obtain ⟨an, rfl⟩ : ∃ n : Nat, a0 = n := ⟨a0.toNat, by omega⟩
   have hll := h.inn.len
   have han : an < l.length := by omega
   simp (disch := try exact dzq) only [↓bxD, bA, simprocAttr, hq1, h16, hr2, hbox, d1]
   show Wp fns K53_9 _ _ _
   unfold K53_9
   simp (disch := try exact dzq) only [↓bxD, bA, simprocAttr, hq1, h16, hbox, hg3, hN]
   generalize hM2 : (M1.push _).set M1.n _ = M2
   have hx2 : Ext M1 M2 := by rw [← hM2]; exact (Ext.push M1 _).set _ (Nat.le_refl _)
   have h9 : M2.get M1.n = some (.cs false 3 (setN [.i .i64 (an : Int), ur, .i .i64 a2] 0 (ofL [.i .i64 0, .nils, .i .i64 0] 0))) := by rw [← hM2, set_same]
   have hn3 : M2.n = M1.n + 1 := by rw [← hM2]; rfl
   have hl2 := hx2.lo
   clear hM2
   have hC3 : At (setN [MV.i .i64 (an : Int), ur, .i .i64 a2] 0 (ofL [.i .i64 0, .nils, .i .i64 0] 0)) 0 [.i .i64 (an : Int), ur, .i .i64 a2] := at_setN _ _ _
   have c0 : cget (setN [MV.i .i64 (an : Int), ur, .i .i64 a2] 0 (ofL [.i .i64 0, .nils, .i .i64 0] 0)) 0 = some (.i .i64 (an : Int)) := hC3 0 _ rfl
   have c1 : cget (setN [MV.i .i64 (an : Int), ur, .i .i64 a2] 0 (ofL [.i .i64 0, .nils, .i .i64 0] 0)) 1 = some ur := hC3 1 _ rfl
   have hrow2 : IntsAt M2 id l := h.row.same (hx2.old _ hid2)
   have hsy := h.ok.sym _ hmem
   have hle := h.ok.len _ hmem
   simp only at hsy hle
   have hb2 : M2.get M0.n = some (.cs false 7 (ofL (gcs g vr vf vc vk) 0)) := (hx2.old _ (by omega)).trans h.b0
   refine rrow_in hrow2 (by omega) (hu2.ext (h.ext.trans hx2)) h.inn.lo (fun s hs s0 => by have := symB_lt (hsy s hs) s0; omega) hle (v1 := .p M0.n 0) (n7 := M1.n) (b5 := more) (i6 := (i : Int)) (by simp only [bA, reduceCtorEq]) h9 c1 (by simp only [bA, reduceCtorEq, hq1]) (by simp only [bA, reduceCtorEq, hq3]) (by simp only [bA, reduceCtorEq, h4]) (by simp only [bA, reduceCtorEq, h16]) (by simp only [bA, reduceCtorEq]) (by simp only [bA, reduceCtorEq] <;> rfl) _ ?_
   intro f2 g7 g1 g3 g5 g6 g8
   simp only [q1, q3, q5, q6, q7, q8] at g1 g3 g5 g6 g7 g8
   obtain ⟨t, ht1, ht2, ht3, ht4⟩ := hrow2.read
   obtain ⟨z, hz⟩ : ∃ z, l[an]? = some z := ⟨_, List.getElem?_eq_getElem han⟩
   have hR := ht2 _ _ hz
   have hH := ht3 an han
   have hzb := h.inn.lo z (List.mem_of_getElem? hz)
   have hgd : l.getD an (-1) = z := by rw [List.getD_eq_getElem?_getD, hz]; rfl
   have hrb := @shRow_le l ar
   have hcd : shCond l ((an : Int), ar, a2) = (decide (0 ≤ shRow l ar) && (decide (z < 0) || decide (shRow l ar < z))) := by unfold shCond; simp only [Int.toNat_natCast, hgd]
   have stay : shCond l ((an : Int), ar, a2) = false → True ∧ l = shRnd (g.rules.take (i + 1)) l0 ∧ ((more = true ∧ shMu l < shMu l0) ∨ (more = false ∧ l = l0 ∧ ShStill (g.rules.take (i + 1)) l0)) := fun e => by
    refine ⟨trivial, ?_, ?_⟩
    ·rw [hrt]; unfold shStep; rw [e]; rfl
    ·rcases hc with hc | ⟨hc1, hc2, hc3⟩
     ·exact .inl hc
     ·refine .inr ⟨hc1, hc2, fun r hr' => ?_⟩
      rw [List.take_add_one, hr] at hr'
      rcases List.mem_append.1 hr' with h1 | h1
      ·exact hc3 r h1
      ·simp only [Option.toList_some, List.mem_singleton] at h1
       subst h1
       rw [← hc2]; exact e
   have turn : shCond l ((an : Int), ar, a2) = true → Ext M0 (M2.set id (some (.cs false 1 (setN (MV.i .i64 (shRow l ar)).cells (an * 1) t)))) ∧ (M2.set id (some (.cs false 1 (setN (MV.i .i64 (shRow l ar)).cells (an * 1) t)))).get M0.n = some (.cs false 7 (ofL (gcs g vr vf vc vk) 0)) ∧ IntsAt (M2.set id (some (.cs false 1 (setN (MV.i .i64 (shRow l ar)).cells (an * 1) t)))) id (l.set an (shRow l ar)) ∧ ShIn g (l.set an (shRow l ar)) ∧ l.set an (shRow l ar) = shRnd (g.rules.take (i + 1)) l0 ∧ shMu (l.set an (shRow l ar)) < shMu l0 := fun e => by
    have hs := h.inn.step h.ok hmem
    unfold shStep at hs hrt
    rw [e] at hs hrt
    simp only [if_true, Int.toNat_natCast] at hs hrt
    have hmu := shMu_step hll h.ok hmem e
    simp only [Int.toNat_natCast] at hmu
    refine ⟨(h.ext.trans hx2).set _ (by omega), ?_, ⟨_, set_same _ _, ht4 an _ han⟩, hs, hrt.symm, ?_⟩
    ·rw [set_ne (by omega)]; exact hb2
    ·rcases hc with ⟨_, hc⟩ | ⟨_, rfl, _⟩
     ·exact Nat.lt_trans hmu hc
     ·exact hmu
   have hcut := shVal_cut l ar
   unfold mostZ at hcut
   by_cases e0 : 1000000000 < shVal l ar
   ·have d0 : decide (1000000000 < shVal l ar) = true := decide_eq_true e0
    rw [if_pos e0] at hcut
    show Wp fns K53_7 _ _ _
    unfold K53_7
    simp (disch := try exact dzq) only [↓bxD, bA, simprocAttr, g8, d0]
    have hv8 : (1000000000 : Int) = shRow l ar := hcut
    by_cases e1 : 0 ≤ shRow l ar
    ·have de : decide (0 ≤ (1000000000 : Int)) = true := by rw [hv8]; exact decide_eq_true e1
     have de2 : decide (0 ≤ shRow l ar) = true := decide_eq_true e1
     by_cases e2 : z < 0
     ·have dz : decide (z < 0) = true := decide_eq_true e2
      have hcf : shCond l ((an : Int), ar, a2) = true := by rw [hcd, decide_eq_true e1, dz]; rfl
      obtain ⟨s1, s2, s3, s4, s5, s6⟩ := turn hcf
      show Wp fns K53_6 _ _ _
      unfold K53_6
      simp (disch := try exact dzq) only [↓bxD, bA, simprocAttr, g3, g7, h9, c0, ix_slc, ht1, hR, de2, dz, hv8]
      show Wp fns K53_8 _ _ _
      unfold K53_8
      simp (disch := try exact dzq) only [↓bxD, bA, simprocAttr, g6]
      exact ⟨(i + 1, _, true), by simp only; omega, ⟨h.gr, h.ok, s1, h.lo0, s2, h.id1, by rw [set_n]; omega, s3, s4, by simp only [bA, reduceCtorEq, g1], by simp (disch := try exact dzq) only [bA, simprocAttr, g3, List.length_set]⟩, by simp only; omega, rfl, rfl, s5, .inl ⟨rfl, s6⟩⟩
     ·have dz : decide (z < 0) = false := decide_eq_false e2
      by_cases e3 : shRow l ar < z
      ·have d32 : decide (shRow l ar < z) = true := decide_eq_true e3
       have hcf : shCond l ((an : Int), ar, a2) = true := by rw [hcd, decide_eq_true e1, decide_eq_true e3, Bool.or_true]; rfl
       obtain ⟨s1, s2, s3, s4, s5, s6⟩ := turn hcf
       show Wp fns K53_6 _ _ _
       unfold K53_6
       simp (disch := try exact dzq) only [↓bxD, bA, simprocAttr, g3, g7, h9, c0, ix_slc, ht1, hR, de2, dz, d32, hv8]
       show Wp fns K53_8 _ _ _
       unfold K53_8
       simp (disch := try exact dzq) only [↓bxD, bA, simprocAttr, g6]
       exact ⟨(i + 1, _, true), by simp only; omega, ⟨h.gr, h.ok, s1, h.lo0, s2, h.id1, by rw [set_n]; omega, s3, s4, by simp only [bA, reduceCtorEq, g1], by simp (disch := try exact dzq) only [bA, simprocAttr, g3, List.length_set]⟩, by simp only; omega, rfl, rfl, s5, .inl ⟨rfl, s6⟩⟩
      ·have d3 : decide ((1000000000 : Int) < z) = false := by rw [hv8]; exact decide_eq_false e3
       have hcf : shCond l ((an : Int), ar, a2) = false := by rw [hcd, dz, decide_eq_false e3]; simp
       obtain ⟨s1, s2, s3⟩ := stay hcf
       show Wp fns K53_6 _ _ _
       unfold K53_6
       simp (disch := try exact dzq) only [↓bxD, bA, simprocAttr, g3, g7, h9, c0, ix_slc, ht1, hR, dz, d3]
       show Wp fns K53_8 _ _ _
       unfold K53_8
       simp (disch := try exact dzq) only [↓bxD, bA, simprocAttr, g5, g6]
       exact ⟨(i + 1, l, more), by simp only; omega, ⟨h.gr, h.ok, h.ext.trans hx2, h.lo0, hb2, h.id1, by omega, hrow2, h.inn, by simp only [bA, reduceCtorEq, g1], by simp only [bA, reduceCtorEq, g3]⟩, by simp only; omega, rfl, rfl, s2, s3⟩
    ·exact (e1 (by rw [← hv8]; decide)).elim
   ·have d0 : decide (1000000000 < shVal l ar) = false := decide_eq_false e0
    rw [if_neg e0] at hcut
    show Wp fns K53_7 _ _ _
    unfold K53_7
    simp (disch := try exact dzq) only [↓bxD, bA, simprocAttr, g8, d0]
    have hv8 : shVal l ar = shRow l ar := hcut
    by_cases e1 : 0 ≤ shRow l ar
    ·have de : decide (0 ≤ shVal l ar) = true := by rw [hv8]; exact decide_eq_true e1
     have de2 : decide (0 ≤ shRow l ar) = true := decide_eq_true e1
     by_cases e2 : z < 0
     ·have dz : decide (z < 0) = true := decide_eq_true e2
      have hcf : shCond l ((an : Int), ar, a2) = true := by rw [hcd, decide_eq_true e1, dz]; rfl
      obtain ⟨s1, s2, s3, s4, s5, s6⟩ := turn hcf
      show Wp fns K53_6 _ _ _
      unfold K53_6
      simp (disch := try exact dzq) only [↓bxD, bA, simprocAttr, g3, g7, g8, h9, c0, ix_slc, ht1, hR, de2, dz, hv8]
      show Wp fns K53_8 _ _ _
      unfold K53_8
      simp (disch := try exact dzq) only [↓bxD, bA, simprocAttr, g6]
      exact ⟨(i + 1, _, true), by simp only; omega, ⟨h.gr, h.ok, s1, h.lo0, s2, h.id1, by rw [set_n]; omega, s3, s4, by simp only [bA, reduceCtorEq, g1], by simp (disch := try exact dzq) only [bA, simprocAttr, g3, List.length_set]⟩, by simp only; omega, rfl, rfl, s5, .inl ⟨rfl, s6⟩⟩
     ·have dz : decide (z < 0) = false := decide_eq_false e2
      by_cases e3 : shRow l ar < z
      ·have d32 : decide (shRow l ar < z) = true := decide_eq_true e3
       have hcf : shCond l ((an : Int), ar, a2) = true := by rw [hcd, decide_eq_true e1, decide_eq_true e3, Bool.or_true]; rfl
       obtain ⟨s1, s2, s3, s4, s5, s6⟩ := turn hcf
       show Wp fns K53_6 _ _ _
       unfold K53_6
       simp (disch := try exact dzq) only [↓bxD, bA, simprocAttr, g3, g7, g8, h9, c0, ix_slc, ht1, hR, de2, dz, d32, hv8]
       show Wp fns K53_8 _ _ _
       unfold K53_8
       simp (disch := try exact dzq) only [↓bxD, bA, simprocAttr, g6]
       exact ⟨(i + 1, _, true), by simp only; omega, ⟨h.gr, h.ok, s1, h.lo0, s2, h.id1, by rw [set_n]; omega, s3, s4, by simp only [bA, reduceCtorEq, g1], by simp (disch := try exact dzq) only [bA, simprocAttr, g3, List.length_set]⟩, by simp only; omega, rfl, rfl, s5, .inl ⟨rfl, s6⟩⟩
      ·have d3 : decide (shVal l ar < z) = false := by rw [hv8]; exact decide_eq_false e3
       have hcf : shCond l ((an : Int), ar, a2) = false := by rw [hcd, dz, decide_eq_false e3]; simp
       obtain ⟨s1, s2, s3⟩ := stay hcf
       show Wp fns K53_6 _ _ _
       unfold K53_6
       simp (disch := try exact dzq) only [↓bxD, bA, simprocAttr, g3, g7, g8, h9, c0, ix_slc, ht1, hR, de, dz, d3]
       show Wp fns K53_8 _ _ _
       unfold K53_8
       simp (disch := try exact dzq) only [↓bxD, bA, simprocAttr, g5, g6]
       exact ⟨(i + 1, l, more), by simp only; omega, ⟨h.gr, h.ok, h.ext.trans hx2, h.lo0, hb2, h.id1, by omega, hrow2, h.inn, by simp only [bA, reduceCtorEq, g1], by simp only [bA, reduceCtorEq, g3]⟩, by simp only; omega, rfl, rfl, s2, s3⟩
    ·have de : decide (0 ≤ shVal l ar) = false := by rw [hv8]; exact decide_eq_false e1
     have hcf : shCond l ((an : Int), ar, a2) = false := by rw [hcd, decide_eq_false e1]; rfl
     obtain ⟨s1, s2, s3⟩ := stay hcf
     show Wp fns K53_6 _ _ _
     unfold K53_6
     simp (disch := try exact dzq) only [↓bxD, bA, simprocAttr, g8, de]
     show Wp fns K53_8 _ _ _
     unfold K53_8
     simp (disch := try exact dzq) only [↓bxD, bA, simprocAttr, g5, g6]
     exact ⟨(i + 1, l, more), by simp only; omega, ⟨h.gr, h.ok, h.ext.trans hx2, h.lo0, hb2, h.id1, by omega, hrow2, h.inn, by simp only [bA, reduceCtorEq, g1], by simp only [bA, reduceCtorEq, g3]⟩, by simp only; omega, rfl, rfl, s2, s3⟩
  ·have d1 : decide ((i : Int) < (g.rules.length : Int)) = false := decide_eq_false (by omega)
   have hi2 : i = g.rules.length := by omega
   subst hi2
   rw [List.take_length] at hc hl
   simp (disch := try exact dzq) only [↓bxD, bA, simprocAttr, hq1, h16, hbox, hr2, d1]
   exact hn _ _ l more ⟨h.gr, h.ok, h.ext, h.lo0, h.b0, h.id1, h.id2, h.row, h.inn, by simp only [bA, reduceCtorEq, hq1], by simp only [bA, reduceCtorEq, hq3]⟩ (by simp only [bA, reduceCtorEq, h4]) hl hc
 ·exact ⟨⟨h.gr, h.ok, h.ext, h.lo0, h.b0, h.id1, h.id2, h.row, h.inn, by simp only [bA, reduceCtorEq, hq1], by simp only [bA, reduceCtorEq, hq3]⟩, Nat.zero_le _, by simp only [bA, reduceCtorEq] <;> rfl, by simp only [bA, reduceCtorEq], rfl, .inr ⟨rfl, rfl, fun r hr => by simp at hr⟩⟩
theorem rshortest_any {M : MH} {g : Gr} {vr vf vc vk : MV} {es : List (List MV)} (h : GrAt M vr vf vc vk es g) (hlo : M.lo ≤ M.n) : Cp fns 53 [.ag (gcs g vr vf vc vk)] M (ShPost g M) := by
 have hG : ∀ l, l = gcs g vr vf vc vk → Ev.getN (ofL l 0) 7 0 = some (gcs g vr vf vc vk) := fun l e => by subst e; exact (at_ofL (gcs g vr vf vc vk)).getN
 have hG := hG [MV.i IntKind.i64 g.names, MV.i IntKind.i64 g.kinds, MV.i IntKind.i64 g.start, vr, vf, vc, vk] rfl
 refine Cp_call (fn := F53) (by kernel_rfl) (Nat.le_of_ble_eq_true rfl) ?_
 show Wp fns B53 (T.set q0 (some (.ag (gcs g vr vf vc vk))) T.lf) M _
 unfold B53
 rw [show gcs g vr vf vc vk = [MV.i IntKind.i64 g.names, MV.i IntKind.i64 g.kinds, MV.i IntKind.i64 g.start, vr, vf, vc, vk] from rfl]
 generalize hM1 : M.push (.cs false 7 (ofL [MV.i IntKind.i64 g.names, MV.i IntKind.i64 g.kinds, MV.i IntKind.i64 g.start, vr, vf, vc, vk] 0)) = M1
 have g0 : M1.get M.n = some (.cs false 7 (ofL [MV.i IntKind.i64 g.names, MV.i IntKind.i64 g.kinds, MV.i IntKind.i64 g.start, vr, vf, vc, vk] 0)) := by rw [← hM1]; exact push_new _
 have x1 : Ext M M1 := by rw [← hM1]; exact .push M _
 have n1 : M1.n = M.n + 1 := by rw [← hM1]; rfl
 have l1 := x1.lo
 simp (disch := try exact dzq) only [↓bxD, bA, simprocAttr, hG, hM1, g0]
 refine bindP_call (formed_any (h.ext x1) (by omega)) ?_
 rintro m M2 ⟨rfl, x2⟩
 have n2 := x2.n
 have l2 := x2.lo
 have g2 := (x2.old _ (by omega)).trans g0
 by_cases hz : (formP g).2 = 0
 ·have dz : decide ((formP g).2 = 0) = true := decide_eq_true hz
  have hok := form_ok hz
  obtain ⟨nn, hnn⟩ : ∃ n : Nat, g.names = n := ⟨g.names.toNat, by have := hok.n1; omega⟩
  have hn1 := hok.n1
  have hn40 := hok.n2
  have hcs : gcs g vr vf vc vk = [MV.i .i64 (nn : Int), .i .i64 g.kinds, .i .i64 g.start, vr, vf, vc, vk] := by unfold gcs; rw [hnn]
  have g2' := g2
  rw [hnn] at g2'
  have hG' := hG
  rw [hnn, hcs] at hG'
  simp (disch := try exact dzq) only [↓bxD, bA, simprocAttr, dz]
  show Wp fns K53_15 _ _ _
  unfold K53_15
  simp (disch := try exact dzq) only [↓bxD, bA, simprocAttr, g2', ev_mks, mks_ok]
  have hbn := IntsAt.new (M := M2) nn
  have x3 : Ext M2 (M2.push (.cs false 1 (ofL (zrow [.i .i64 0] nn) 0))) := .push M2 _
  have n3 : (M2.push (.cs false 1 (ofL (zrow [.i .i64 0] nn) 0))).n = M2.n + 1 := rfl
  generalize M2.push (.cs false 1 (ofL (zrow [.i .i64 0] nn) 0)) = M3 at hbn x3 n3
  have l3 := x3.lo
  refine Wp_inv (σ := Nat × List Int) (fun s f M' => Ext M M' ∧ M'.n = M3.n ∧ M'.get M.n = some (.cs false 7 (ofL [MV.i .i64 (nn : Int), .i .i64 g.kinds, .i .i64 g.start, vr, vf, vc, vk] 0)) ∧ s.1 ≤ nn ∧ X.ev f (.t q1) = .p M.n 0 ∧ X.ev f (.t q3) = .sl M2.n 0 nn 0 ∧ X.ev f (.t q4) = .i .i64 (s.1 : Int) ∧ IntsAt M' M2.n s.2 ∧ s.2.length = nn ∧ ∀ j, j < s.1 → s.2[j]? = some (-1)) (fun s => nn - s.1) ?_ (0, List.replicate nn 0) ?_
  ·rintro ⟨i, L⟩ f M' ⟨hx, hn', hg', hi, h1', h3', h4', hI, hL, hv⟩
   simp only at hi h3' h4' hI hL hv
   simp only [q1, q3, q4] at h1' h3' h4'
   have hl' := hx.lo
   unfold L53_2
   by_cases hi' : i < nn
   ·have d1 : decide ((i : Int) < (nn : Int)) = true := decide_eq_true (by omega)
    obtain ⟨t, ht1, ht2, ht3, ht4⟩ := hI.read
    have hH := ht3 i (by omega)
    simp (disch := try exact dzq) only [↓bxD, bA, simprocAttr, h1', h4', hg', d1]
    show Wp fns K53_1 _ _ _
    unfold K53_1
    simp (disch := try exact dzq) only [↓bxD, bA, simprocAttr, h3', h4', ix_slc, ht1]
    show Wp fns K53_0 _ _ _
    unfold K53_0
    simp (disch := try exact dzq) only [↓bxD, bA, simprocAttr, h1', h3', h4', hg']
    refine ⟨(i + 1, L.set i (-1)), by simp only; omega, hx.set _ (by omega), hn', by simp only; omega, rfl, ⟨_, set_same _ _, ht4 i (-1) (by omega)⟩, by rw [List.length_set]; exact hL, fun j hj => ?_⟩
    simp only at hj ⊢
    rw [List.getElem?_set]
    by_cases e : i = j
    ·subst e
     rw [if_pos rfl, if_pos (by omega)]
    ·rw [if_neg e]
     exact hv j (by omega)
   ·have d1 : decide ((i : Int) < (nn : Int)) = false := decide_eq_false (by omega)
    have e : L = shIt g 0 := by
     show L = List.replicate g.names.toNat (-1)
     refine List.ext_getElem? fun j => ?_
     rw [List.getElem?_replicate]
     by_cases hj : j < nn
     ·rw [if_pos (by omega)]; exact hv j (by omega)
     ·rw [if_neg (by omega), List.getElem?_eq_none (by omega)]
    simp (disch := try exact dzq) only [↓bxD, bA, simprocAttr, h1', h4', hg', d1]
    show Wp fns K53_14 _ _ _
    unfold K53_14
    simp (disch := try exact dzq) only [↓bxD, bA, simprocAttr]
    have hin : ShIn g (shIt g 0) := ShIn.it hok 0
    rw [e] at hI hL
    refine Wp_inv (σ := List Int × Bool) (fun s f1 M1 => ISt M M1 g vr vf vc vk es M2.n s.1 f1 ∧ X.ev f1 (.t q5) = .b s.2 ∧ (∃ n, s.1 = shIt g n) ∧ (s.2 = false → ShStill g.rules s.1)) (fun s => 2 * shMu s.1 + (if s.2 = true then 1 else 0)) ?_ (shIt g 0, true) ?_
    ·rintro ⟨l, more⟩ f1 M4 ⟨h4, ht, hs, hc⟩
     simp only at h4 ht hs hc
     have hq1 := h4.q1
     have hq3 := h4.q3
     simp only [q1, q3, q5] at hq1 hq3 ht
     unfold L53_12
     cases more with
     | true =>
      simp (disch := try exact dzq) only [↓bxD, bA, simprocAttr, ht]
      show Wp fns K53_11 _ _ _
      refine rshort_round ⟨h4.gr, h4.ok, h4.ext, h4.lo0, h4.b0, h4.id1, h4.id2, h4.row, h4.inn, by simp only [bA, reduceCtorEq, hq1], by simp only [bA, reduceCtorEq, hq3]⟩ _ ?_
      intro f' M' l' more' h' h4' hs' hcase
      refine ⟨(l', more'), ?_, h', h4', ?_, fun e => ?_⟩
      ·rcases hcase with ⟨rfl, hlt⟩ | ⟨rfl, rfl, _⟩
       ·simp only [if_true]; omega
       ·simp
      ·obtain ⟨n, rfl⟩ := hs
       exact ⟨n + 1, hs'⟩
      ·rcases hcase with ⟨rfl, _⟩ | ⟨_, rfl, hc'⟩
       ·cases e
       ·exact hc'
     | false =>
      simp (disch := try exact dzq) only [↓bxD, bA, simprocAttr, ht]
      show Wp fns K53_13 _ _ _
      unfold K53_13
      simp (disch := try exact dzq) only [↓bxD, bA, simprocAttr, hq3]
      exact ⟨h4.ext, .inr ⟨hz, l, ⟨hs, hc rfl⟩, h4.row.row h4.id2⟩⟩
    ·refine ⟨⟨h, hok, hx, hlo, by rw [hg', hcs], by omega, by omega, hI, hin, by simp only [bA, reduceCtorEq, h1'], ?_⟩, by simp only [bA, reduceCtorEq], ⟨0, rfl⟩, fun e => by cases e⟩
     simp (disch := try exact dzq) only [bA, simprocAttr, h3', hL]
  ·exact ⟨(x1.trans x2).trans x3, rfl, (x3.old _ (by omega)).trans g2', Nat.zero_le _, by simp only [bA, reduceCtorEq], by simp only [bA, reduceCtorEq], by simp only [bA, reduceCtorEq] <;> rfl, hbn, List.length_replicate, fun j hj => absurd hj (Nat.not_lt_zero j)⟩
 ·have dz : decide ((formP g).2 = 0) = false := decide_eq_false hz
  simp (disch := try exact dzq) only [↓bxD, bA, simprocAttr, dz]
  exact ⟨x1.trans x2, .inl ⟨hz, rfl⟩⟩
theorem rprod_any {M : MH} {g : Gr} {vr vf vc vk : MV} {es : List (List MV)} (h : GrAt M vr vf vc vk es g) (hlo : M.lo ≤ M.n) : Cp fns 41 [.ag (gcs g vr vf vc vk)] M (PrPost g M) := by
 have hG : ∀ l, l = gcs g vr vf vc vk → Ev.getN (ofL l 0) 7 0 = some (gcs g vr vf vc vk) := fun l e => by subst e; exact (at_ofL (gcs g vr vf vc vk)).getN
 have hG := hG [MV.i IntKind.i64 g.names, MV.i IntKind.i64 g.kinds, MV.i IntKind.i64 g.start, vr, vf, vc, vk] rfl
 refine Cp_call (fn := F41) (by kernel_rfl) (Nat.le_of_ble_eq_true rfl) ?_
 show Wp fns B41 (T.set q0 (some (.ag (gcs g vr vf vc vk))) T.lf) M _
 unfold B41
 rw [show gcs g vr vf vc vk = [MV.i IntKind.i64 g.names, MV.i IntKind.i64 g.kinds, MV.i IntKind.i64 g.start, vr, vf, vc, vk] from rfl]
 generalize hM1 : M.push (.cs false 7 (ofL [MV.i IntKind.i64 g.names, MV.i IntKind.i64 g.kinds, MV.i IntKind.i64 g.start, vr, vf, vc, vk] 0)) = M1
 have g0 : M1.get M.n = some (.cs false 7 (ofL [MV.i IntKind.i64 g.names, MV.i IntKind.i64 g.kinds, MV.i IntKind.i64 g.start, vr, vf, vc, vk] 0)) := by rw [← hM1]; exact push_new _
 have x1 : Ext M M1 := by rw [← hM1]; exact .push M _
 have n1 : M1.n = M.n + 1 := by rw [← hM1]; rfl
 have l1 := x1.lo
 simp (disch := try exact dzq) only [↓bxD, bA, simprocAttr, hG, hM1, g0]
 refine bindP_call (formed_any (h.ext x1) (by omega)) ?_
 rintro m M2 ⟨rfl, x2⟩
 have n2 := x2.n
 have l2 := x2.lo
 have g2 := (x2.old _ (by omega)).trans g0
 by_cases hz : (formP g).2 = 0
 ·have dz : decide ((formP g).2 = 0) = true := decide_eq_true hz
  have hok := form_ok hz
  have hn1 := hok.n1
  have hn40 := hok.n2
  simp (disch := try exact dzq) only [↓bxD, bA, simprocAttr, dz]
  show Wp fns K41_4 _ _ _
  unfold K41_4
  simp (disch := try exact dzq) only [↓bxD, bA, simprocAttr, g2, hG]
  refine bindP_call (rshortest_any ((h.ext x1).ext x2) (by omega)) ?_
  rintro m M3 ⟨x3, ⟨hne, _⟩ | ⟨_, l, h1, h2⟩⟩
  ·exact absurd hz hne
  have hin := h1.inn hok
  have hll := hin.len
  have l3 := x3.lo
  have n3 := x3.n
  obtain ⟨hs1, hs2⟩ := h2.sl
  simp (disch := try exact dzq) only [↓bxD, bA, simprocAttr]
  refine Wp_inv (σ := Nat) (fun i f M' => Ext M3 M' ∧ i ≤ l.length ∧ X.ev f (.t q3) = m ∧ X.ev f (.t q5) = .i .i64 (i : Int) ∧ ∃ v, X.ev f (.t q4) = v ∧ OwnRow M3.n M' 1 v (((l.take i).map fun z => decide (0 ≤ z)).map fun b => [.b b])) (fun i => l.length - i) ?_ 0 ?_
  ·rintro i f M' ⟨hx, hi, h3', h5', v, h4', hv⟩
   simp only [q3, q4, q5] at h3' h4' h5'
   have hl' := hx.lo
   have hn' := hx.n
   unfold L41_2
   by_cases hi' : i < l.length
   ·have d1 : decide ((i : Int) < (l.length : Int)) = true := decide_eq_true (by omega)
    obtain ⟨z, hzz⟩ : ∃ z, l[i]? = some z := ⟨_, List.getElem?_eq_getElem hi'⟩
    obtain ⟨ro, s, t, hg, hid, hC⟩ := (h2.ext hx).read hzz
    have hfill : fillM [(0, 1, MV.b (decide (0 ≤ z)))] [MV.b false] = some [MV.b (decide (0 ≤ z))] := fill_one rfl rfl
    simp (disch := try exact dzq) only [↓bxD, bA, simprocAttr, h3', h5', hs2, d1]
    show Wp fns K41_1 _ _ _
    unfold K41_1
    simp (disch := try exact dzq) only [↓bxD, bA, simprocAttr, h3', h4', h5', hg, hC, hfill]
    have ho := hv.ext (.push M' (.cs false 1 (ofL [.b (decide (0 ≤ z))] 0)))
    obtain ⟨v', M5, e1, e2, e3, e4, e5, e6⟩ := app_row (bytes := 1) ho (row_one (M := M') (sz := 1) (e := [.b (decide (0 ≤ z))]) rfl) (by rw [push_lo]; omega) (by rw [push_n]; omega) (fun e he => by rw [List.mem_singleton.1 he]; rfl) (by simp; omega) (by simp; omega)
    refine bindP_of e1 ?_
    simp (disch := try exact dzq) only [↓bxD, bA, simprocAttr]
    show Wp fns K41_0 _ _ _
    unfold K41_0
    simp (disch := try exact dzq) only [↓bxD, bA, simprocAttr, h3', h5']
    refine ⟨i + 1, by omega, ⟨by rw [push_n] at e3; omega, by rw [push_lo] at e4; omega, fun id hid => ?_⟩, by omega, rfl, v', rfl, ?_⟩
    ·rw [e6 id (by omega) (by rw [push_n]; omega), push_old (by omega), hx.old id hid]
    ·rw [List.take_add_one, hzz]
     simpa using e2
   ·have d1 : decide ((i : Int) < (l.length : Int)) = false := decide_eq_false (by omega)
    have hie : i = l.length := by omega
    subst hie
    rw [List.take_length] at hv
    simp (disch := try exact dzq) only [↓bxD, bA, simprocAttr, h3', h5', hs2, d1]
    show Wp fns K41_3 _ _ _
    unfold K41_3
    simp (disch := try exact dzq) only [↓bxD, bA, simprocAttr, h4']
    exact ⟨((x1.trans x2).trans x3).trans hx, .inr ⟨hz, l, h1, hv.row⟩⟩
  ·exact ⟨.refl _, Nat.zero_le _, by simp only [bA, reduceCtorEq], by simp only [bA, reduceCtorEq] <;> rfl, .nils, by simp only [bA, reduceCtorEq], OwnRow.nil _ _ _⟩
 ·have dz : decide ((formP g).2 = 0) = false := decide_eq_false hz
  simp (disch := try exact dzq) only [↓bxD, bA, simprocAttr, dz]
  exact ⟨x1.trans x2, .inl ⟨hz, rfl⟩⟩
def fewB (g : Gr) : Bool := decide ((g.rules.length : Int) ≤ 70) && (decide ((g.forbid.length : Int) ≤ 250) && (decide ((g.rc.length : Int) ≤ 100) && decide ((g.kc.length : Int) ≤ 100)))
theorem few_any {M : MH} {g : Gr} {vr vf vc vk : MV} {es : List (List MV)} (h : GrAt M vr vf vc vk es g) (hlo : M.lo ≤ M.n) : Cp fns 7 [.ag (gcs g vr vf vc vk)] M fun m M' => m = .b (fewB g) ∧ Ext M M' := by
 obtain ⟨hr1, hr2⟩ := h.rules.row.sl
 rw [h.rules.len] at hr2
 obtain ⟨hf1, hf2⟩ := h.forbid.sl
 rw [List.length_map] at hf2
 obtain ⟨hc1, hc2⟩ := h.rc.sl
 obtain ⟨hk1, hk2⟩ := h.kc.sl
 refine Cp_call (fn := F7) (by kernel_rfl) (Nat.le_of_ble_eq_true rfl) ?_
 show Wp fns B7 (T.set q0 (some (.ag (gcs g vr vf vc vk))) T.lf) M _
 unfold B7 gcs
 have hx : ∀ l, Ext M (M.push (.cs false 7 (ofL l 0))) := fun l => .push M _
 cases d0 : decide ((g.rules.length : Int) ≤ 70) with
 | false =>
  simp (disch := try exact dz) only [↓bxD, bA, simprocAttr, hr2, d0]
  exact ⟨by unfold fewB; rw [d0]; rfl, hx _⟩
 | true =>
  cases d1 : decide ((g.forbid.length : Int) ≤ 250) with
  | false =>
   simp (disch := try exact dz) only [↓bxD, bA, simprocAttr, hr2, hf2, d0, d1]
   exact ⟨by unfold fewB; rw [d0, d1]; rfl, hx _⟩
  | true =>
   cases d2 : decide ((g.rc.length : Int) ≤ 100) with
   | false =>
    simp (disch := try exact dz) only [↓bxD, bA, simprocAttr, hr2, hf2, hc2, d0, d1, d2]
    exact ⟨by unfold fewB; rw [d0, d1, d2]; rfl, hx _⟩
   | true =>
    simp (disch := try exact dz) only [↓bxD, bA, simprocAttr, hr2, hf2, hc2, hk2, d0, d1, d2]
    exact ⟨by unfold fewB; rw [d0, d1, d2]; simp, hx _⟩
def RIs (g : Gr) (l : List Bool) : Prop := ((formP g).2 ≠ 0 ∧ l = []) ∨ ((formP g).2 = 0 ∧ RchVec g l)
theorem ris_ext {g : Gr} {a b : List Bool} (ha : RIs g a) (hb : RIs g b) : a = b := by
 rcases ha with ⟨h, rfl⟩ | ⟨h, ha⟩ <;> rcases hb with ⟨k, rfl⟩ | ⟨k, hb⟩
 ·rfl
 ·exact absurd k h
 ·exact absurd h k
 ·exact vec_ext (ha.1.trans hb.1.symm) ha.2 hb.2
end Go.Proofs.YtpdcahaggacacaaDoor.K
