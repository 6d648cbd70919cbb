import Derived.Test.YtgfonnjblbpogaaBtNd
import Derived.Test.YtgfonnjblbpogaaBwSm
import Derived.Maps.AppendAt
import Derived.Test.YtgfonnjblbpogaaBhSpB
import Derived.Lib.AppendZeros
import Derived.BigQuiet
import Derived.Test.YtgfonnjblbpogaaBSpX
import Derived.Test.YtgfonnjblbpogaaBwF
import Derived.Test.YtgfonnjblbpogaaBhSou2
import Derived.Test.YtgfonnjblbpogaaBrX
namespace Go.Proofs.Ytgfonnjblbpogaa
open Go.RowKit
set_option linter.unusedVariables false

/-- An append to a row of the call's own: what was there is still read by the slice that was. -/
theorem append_both {P : Program} (w : World) (base : Nat) (t ty e : TypeId) (i : TypeInfo) (z : Value) (size bytes : Nat) (ht : P.underlying t = some (.slice e)) (hi : P.info? e = some i) (hz : i.zero = some z)
    (hsize : i.size = size) (hby : i.bytes = bytes) (hzs : z.cells.size = size) (hsz : 0 < size)
    (v : Value) (n : Nat) (xs : List Value) (hown : w.ownsRow base e size v n xs)
    (a : Addr) (m c : Nat) (news : List Value) (hl : news.length = m * size) (hnews : ∀ j u, news[j]? = some u → w.cell? (a.add j) = some u) (h1 : ∀ u ∈ news, u.oneCell' = true)
    (hm : 0 < m) (h63 : n + m ≤ maxLen) (hbytes : (n + m) * bytes ≤ 140737488355328) (hbase : base ≤ w.heap.size) :
    ∃ v' w', (Builtin.append_ #[t, t] ty #[v, .slice (some a) m c]).run P w = .ok v' w' ∧ w'.ownsRow base e size v' (n + m) (xs ++ news) ∧ w.grownBy w' v.ownBlock ∧
      (∀ g cap, v = .slice (some ⟨g, 0, none⟩) n cap → ∀ j u, xs[j]? = some u → w'.cell? ⟨g, j, none⟩ = some u) ∧ (v'.ownBlock = v.ownBlock ∨ v'.ownBlock = some w.heap.size) := by
  obtain ⟨v', w', hr, h2, h3, h4, h5⟩ := run_append_own_at (P := P) w base t ty e i z size bytes ht hi hz hsize hby hzs hsz v n xs hown a m c news hl hnews h1 h63 hbytes hbase
  refine ⟨v', w', hr, h2, h3, ?_, h5⟩
  intro g cap hv j u hj
  subst hv
  subst hsize hby
  have hadd : ∀ (g' j : Nat), (⟨g', 0, none⟩ : Addr).add j = ⟨g', j, none⟩ := fun g' j => by unfold Addr.add; split <;> simp_all
  rcases hown.2 with ⟨h, _⟩ | ⟨g', cap', cur, hv, hbg, hg, hnc, hcm, hcs, htake⟩
  · injection h with h; cases h
  · injection hv with ha hn hc
    injection ha with ha
    injection ha with ha
    subst ha hc
    by_cases hroom : n + m ≤ cap
    · have hfit : n * i.size + news.length ≤ cur.size := by rw [hl, hcs, ← Nat.add_mul]; exact Nat.mul_le_mul_right _ hroom
      have hr' := run_append_room (P := P) w t ty e i ht hi g n cap cur hg a m c news hl hnews h1 hroom hfit
      rw [hr] at hr'
      injection hr' with hv' hw'
      subst hv'
      have := h2.cells (g := g) rfl j u (by rw [List.getElem?_append_left (by
        rcases Nat.lt_or_ge j xs.length with q | q
        · exact q
        · rw [List.getElem?_eq_none q] at hj; cases hj)]; exact hj)
      rw [hadd] at this
      exact this
    · have holds : ∀ j u, xs[j]? = some u → w.cell? ((⟨g, 0, none⟩ : Addr).add j) = some u := hown.cells (g := g) rfl
      have hr' := run_append_grow (P := P) w t ty e i z ht hi hz ⟨g, 0, none⟩ n cap xs hown.1 holds a m c news hl hnews (by omega) (by have h63' := h63; simp only [maxLen] at h63'; omega) (growslice_fits (by omega) hbytes)
      rw [hr] at hr'
      injection hr' with hv' hw'
      rw [hw']
      have hlt : g < w.heap.size := (Array.getElem?_eq_some_iff.1 hg).1
      have hc := holds j u hj
      rw [hadd] at hc
      rw [World.cell?_alloc_past _ _ _ (by exact hlt)]
      exact hc
/-- A cell written into a row of the call's own. -/
theorem own_setAt {w : World} {B : Nat} {t : TypeId} {size g n cap : Nat} {xs : List Value} (h : w.ownsRow B t size (.slice (some ⟨g, 0, none⟩) n cap) n xs) (j : Nat) (u : Value) : (w.setCell ⟨g, j, none⟩ u).ownsRow B t size (.slice (some ⟨g, 0, none⟩) n cap) n (xs.set j u) := by
  rcases h with ⟨h1, ⟨h2, _⟩ | ⟨g', cap', cur, h2, h3, h4, h5, h6, h7, h8⟩⟩
  · injection h2 with h2; cases h2
  · injection h2 with ha hn hc
    injection ha with ha
    injection ha with ha
    subst ha hc
    refine ⟨by rw [List.length_set]; exact h1, Or.inr ⟨g, cap, _, rfl, h3, Go.heap_setCell_same _ _ _ _ _ _ h4, h5, h6, by rw [Array.size_setIfInBounds]; exact h7, ?_⟩⟩
    rw [← h8]
    simp [List.take_set]
theorem own_free {w : World} {B : Nat} {t : TypeId} {size g n cap : Nat} {xs : List Value} (h : w.ownsRow B t size (.slice (some ⟨g, 0, none⟩) n cap) n xs) (j : Nat) : w.frozen? ⟨g, j, none⟩ = false := by
  rcases h with ⟨_, ⟨h2, _⟩ | ⟨g', cap', cur, h2, _, h4, _⟩⟩
  · injection h2 with h2; cases h2
  · injection h2 with ha hn hc
    injection ha with ha
    injection ha with ha
    subst ha
    exact Go.frozen_of_row _ _ _ _ _ h4
/-- The node with a mark. -/
def mkN (m : Int) (i : Nat) : Nd := ⟨m, 0, false, (i : Int), ⟨#[]⟩⟩
theorem nv_set (l : List Nd) (i : Nat) (hi : i < l.length) (e : Nd) : (((((nv l).set (i * 5) (.int .i64 e.dep)).set (i * 5 + 1) (.int .i64 e.cls)).set (i * 5 + 2) (.bool e.made)).set (i * 5 + 3) (.int .i64 e.tag)).set (i * 5 + 4) (.string e.body) = nv (l.set i e) := by
  apply List.ext_getElem?
  intro k
  by_cases hk : k < l.length * 5
  · obtain ⟨q, r, rfl, hr⟩ : ∃ q r, k = q * 5 + r ∧ r < 5 := ⟨k / 5, k % 5, by omega, Nat.mod_lt _ (by decide)⟩
    have hq : q < l.length := by omega
    rw [nv_at (l.set i e) q (by rw [List.length_set]; exact hq) r hr]
    by_cases e' : q = i
    · subst e'
      rw [List.getElem_set_self]
      rcases r with _ | _ | _ | _ | _ | r
      · rw [List.getElem?_set_ne (by omega), List.getElem?_set_ne (by omega), List.getElem?_set_ne (by omega), List.getElem?_set_ne (by omega), Nat.add_zero, List.getElem?_set_self (by rw [nv_len]; omega)]; rfl
      · rw [List.getElem?_set_ne (by omega), List.getElem?_set_ne (by omega), List.getElem?_set_ne (by omega), List.getElem?_set_self (by rw [List.length_set, nv_len]; omega)]; rfl
      · rw [List.getElem?_set_ne (by omega), List.getElem?_set_ne (by omega), List.getElem?_set_self (by rw [List.length_set, List.length_set, nv_len]; omega)]; rfl
      · rw [List.getElem?_set_ne (by omega), List.getElem?_set_self (by rw [List.length_set, List.length_set, List.length_set, nv_len]; omega)]; rfl
      · rw [List.getElem?_set_self (by rw [List.length_set, List.length_set, List.length_set, List.length_set, nv_len]; omega)]; rfl
      · omega
    · rw [List.getElem_set_ne (fun h => e' h.symm), List.getElem?_set_ne (by omega), List.getElem?_set_ne (by omega), List.getElem?_set_ne (by omega), List.getElem?_set_ne (by omega), List.getElem?_set_ne (by omega)]
      exact nv_at l q hq r hr
  · rw [List.getElem?_eq_none (by rw [List.length_set, List.length_set, List.length_set, List.length_set, List.length_set, nv_len]; omega), List.getElem?_eq_none (by rw [nv_len, List.length_set]; omega)]
theorem ownN_set {w : World} {B g cap : Nat} {l : List Nd} (h : OwnN w B (.slice (some ⟨g, 0, none⟩) l.length cap) l) (i : Nat) (hi : i < l.length) (e : Nd) :
    OwnN (((((w.setCell ⟨g, i * 5, none⟩ (.int .i64 e.dep)).setCell ⟨g, i * 5 + 1, none⟩ (.int .i64 e.cls)).setCell ⟨g, i * 5 + 2, none⟩ (.bool e.made)).setCell ⟨g, i * 5 + 3, none⟩ (.int .i64 e.tag)).setCell ⟨g, i * 5 + 4, none⟩ (.string e.body)) B (.slice (some ⟨g, 0, none⟩) l.length cap) (l.set i e) := by
  have := own_setAt (own_setAt (own_setAt (own_setAt (own_setAt h (i * 5) (.int .i64 e.dep)) (i * 5 + 1) (.int .i64 e.cls)) (i * 5 + 2) (.bool e.made)) (i * 5 + 3) (.int .i64 e.tag)) (i * 5 + 4) (.string e.body)
  rw [nv_set l i hi e] at this
  unfold OwnN
  rw [List.length_set]
  exact this
/-- The first k are marked. -/
def mkL (m : Int) (k : Nat) (l : List Nd) : List Nd := (List.range k).map (mkN m) ++ l.drop k
theorem mkL_len (m : Int) (k : Nat) (l : List Nd) (h : k ≤ l.length) : (mkL m k l).length = l.length := by unfold mkL; rw [List.length_append, List.length_map, List.length_range, List.length_drop]; omega
theorem mkL_step (m : Int) (k : Nat) (l : List Nd) (h : k < l.length) : (mkL m k l).set k (mkN m k) = mkL m (k + 1) l := by
  unfold mkL
  rw [List.set_append_right _ _ (by rw [List.length_map, List.length_range]; exact Nat.le_refl _), List.length_map, List.length_range, Nat.sub_self, List.range_succ, List.map_append, List.append_assoc]
  congr 1
  rw [show l.drop k = l[k] :: l.drop (k + 1) from List.drop_eq_getElem_cons h]
  rfl
theorem mkL_end (m : Int) (l : List Nd) : mkL m l.length l = (List.range l.length).map (mkN m) := by unfold mkL; rw [List.drop_length, List.append_nil]
end Go.Proofs.Ytgfonnjblbpogaa

namespace Go.Proofs.Ytgfonnjblbpogaa
open Go.RowKit
set_option linter.unusedVariables false

theorem wo_up (k : Nat) (h : k ≤ 4294967296) : wrap64 ((k : Int) + 1) = ((k + 1 : Nat) : Int) := by unfold wrap64; omega
theorem meas_o (n k kk : Nat) (h : k < n) (e : kk = k + 1) : n - (intOf (.int .i64 (kk : Int))).toNat < n - (intOf (.int .i64 (k : Int))).toNat := by
  subst e
  simp [intOf]
  omega
/-- A list with its marks, and the one with one more. -/
def Mkd (W : World) (v more : Value) (m : Int) (n : Nat) : Prop :=
  (∃ a c, v = .slice a n c ∧ NdRow W a ((List.range n).map (mkN m))) ∧ (∃ a c, more = .slice a (n + 1) c ∧ NdRow W a ((List.range (n + 1)).map (mkN m)))
theorem Mkd.below {W W' : World} {v more : Value} {m : Int} {n : Nat} (h : Mkd W v more m n) (hb : Below W.heap.size W W') : Mkd W' v more m n := by
  obtain ⟨⟨a, c, e, r⟩, ⟨a', c', e', r'⟩⟩ := h
  exact ⟨⟨a, c, e, r.below hb⟩, ⟨a', c', e', r'.below hb⟩⟩
theorem NdRow.set {w : World} {a : Option Addr} {l : List Nd} (h : NdRow w a l) (x j : Nat) (u : Value) (hx : ∀ b off, a = some ⟨b, off, none⟩ → b ≠ x) : NdRow (w.setCell ⟨x, j, none⟩ u) a l := fun i hi => by
  obtain ⟨b, off, e, h0, h1, h2, h3, h4⟩ := h i hi
  have hne := hx b off e
  exact ⟨b, off, e, by rw [cell_setB hne]; exact h0, by rw [cell_setB hne]; exact h1, by rw [cell_setB hne]; exact h2, by rw [cell_setB hne]; exact h3, by rw [cell_setB hne]; exact h4⟩
theorem Mkd.set {W : World} {v more : Value} {m : Int} {n : Nat} (h : Mkd W v more m n) (x j : Nat) (u : Value) (h1 : v.ownBlock ≠ some x) (h2 : more.ownBlock ≠ some x) : Mkd (W.setCell ⟨x, j, none⟩ u) v more m n := by
  obtain ⟨⟨a, c, rfl, r⟩, ⟨a', c', rfl, r'⟩⟩ := h
  exact ⟨⟨a, c, rfl, r.set x j u (fun b off e hb => h1 (by rw [e, hb]; rfl))⟩, ⟨a', c', rfl, r'.set x j u (fun b off e hb => h2 (by rw [e, hb]; rfl))⟩⟩
/-- One more, the marks kept. -/
theorem more_any (w : World) (B : Nat) (v : Value) (l : List Nd) (m : Int) (g : Nat) (hl : l = (List.range l.length).map (mkN m)) (hown : OwnN w B v l) (hg : w.heap[g]? = some (.cells #[.int .i64 m, .int .i64 0, .bool false, .int .i64 (l.length : Int), .string ⟨#[]⟩] 39 (0, 0))) (hB : B ≤ w.heap.size) (hn : l.length ≤ 4294967296) :
    ∃ v' w', (Builtin.append_ #[33, 33] 33 #[v, .slice (some ⟨g, 0, none⟩) 1 1]).run Try.prog w = .ok v' w' ∧ Mkd w' v v' m l.length ∧ w.grownBy w' v.ownBlock ∧ (v'.ownBlock = v.ownBlock ∨ v'.ownBlock = some w.heap.size) := by
  obtain ⟨i0, hi, hz0, hz1, hz2⟩ := info_parts info_node
  obtain ⟨v', w', hr, h2, h3, h4, h5⟩ := append_both (P := Try.prog) w B 33 33 39 i0 _ 5 48 Try.underlying33 hi hz0 hz1 hz2 rfl (by decide) v l.length (nv l) hown ⟨g, 0, none⟩ 1 1 (ndV (mkN m l.length)) rfl (World.news_of_block hg) (ndV_one _) (by decide) (by unfold maxLen; omega) (by omega) hB
  refine ⟨v', w', hr, ⟨?_, ?_⟩, h3, h5⟩
  · rcases ownN_form hown with ⟨rfl, h0⟩ | ⟨g', cap, rfl⟩
    · subst h0
      exact ⟨none, 0, rfl, fun i hi => by simp at hi⟩
    · refine ⟨_, _, rfl, ?_⟩
      rw [← hl]
      intro i hi
      have key : ∀ j, j < 5 → w'.cell? ⟨g', i * 5 + j, none⟩ = (ndV l[i])[j]? := fun j hj => by
        have hx := nv_at l i hi j hj
        cases hu : (ndV l[i])[j]? with
        | none => rw [List.getElem?_eq_none_iff] at hu; simp [ndV] at hu; omega
        | some u => rw [hu] at hx; exact h4 g' cap rfl _ u hx
      refine ⟨g', 0, rfl, ?_, ?_, ?_, ?_, ?_⟩
      · rw [Nat.zero_add]; exact key 0 (by omega)
      · rw [Nat.zero_add]; exact key 1 (by omega)
      · rw [Nat.zero_add]; exact key 2 (by omega)
      · rw [Nat.zero_add]; exact key 3 (by omega)
      · rw [Nat.zero_add]; exact key 4 (by omega)
  · have ho' : OwnN w' B v' (l ++ [mkN m l.length]) := by
      unfold OwnN
      rw [nv_snoc, List.length_append]
      exact h2
    obtain ⟨a, c, e, r⟩ := ownN_any ho'
    rw [List.length_append] at e
    refine ⟨a, c, e, ?_⟩
    have e2 : (List.range (l.length + 1)).map (mkN m) = l ++ [mkN m l.length] := by
      rw [List.range_succ, List.map_append, ← hl]
      rfl
    rw [e2]
    exact r
theorem Ch.put {ks : Nat → Prop} {A W : World} (h : Ch ks A W) (g j : Nat) (u : Value) (hk : ks g) : Ch ks A (W.setCell ⟨g, j, none⟩ u) := h.trans (Ch.set W ⟨g, j, none⟩ u hk)
theorem Ch.setNew {ks : Nat → Prop} {W W' : World} (h : Ch ks W W') (p : Addr) (u : Value) (hp : W.heap.size ≤ p.block) : Ch ks W (W'.setCell p u) := by
  obtain ⟨h1, h2, h3, h4, h5⟩ := h
  exact ⟨h1, h2, h3, by rw [World.size_setCell]; exact h4, fun k hk hn => (Below.heap_setCell _ _ _ _ (by omega)).trans (h5 k hk hn)⟩
set_option maxRecDepth 100000 in
set_option maxHeartbeats 4000000 in
theorem markNodes_any (B : Nat) (v : Value) (l : List Nd) (m : Int) (w : World) (hown : OwnN w B v l) (hB : B ≤ w.heap.size) (hn : l.length ≤ 4294967296) :
    Calls Try.prog 25 #[v, .int .i64 m] w fun r w' => ∃ more, r = .returned (.agg #[v, more, .int .i64 m]) ∧ Mkd w' v more m l.length ∧ Ch (fun k => v.ownBlock = some k) w w' ∧ ∀ g, more.ownBlock = some g → v.ownBlock = some g ∨ w.heap.size ≤ g := by
  obtain ⟨va, vc, hv, _⟩ := ownN_any hown
  subst hv
  obtain ⟨n, hnl⟩ : ∃ n, l.length = n := ⟨_, rfl⟩
  rw [hnl] at hown hn ⊢
  obtain ⟨W0, hW0⟩ : ∃ W0, w.alloc (.cells #[.slice none 0 0, .slice none 0 0, .int .i64 0] 66) = W0 := ⟨_, rfl⟩
  have hX0 : Box W0 w.heap.size 66 #[.slice none 0 0, .slice none 0 0, .int .i64 0] := by rw [← hW0]; exact Box.new _ _ _
  have hb0 : Below w.heap.size w W0 := by rw [← hW0]; exact (Below.refl _ _).alloc (Nat.le_refl _) _
  have HH : Hid (l.length = n ∧ n ≤ 4294967296 ∧ B ≤ w.heap.size ∧ OwnN w B (.slice va n vc) l) := ⟨hnl, hn, hB, hown⟩
  have hst : Hid (OwnN W0 B (.slice va n vc) (mkL m 0 l) ∧ Ch (fun k => (Value.slice va n vc).ownBlock = some k) w W0 ∧ Box W0 w.heap.size 66 #[.slice none 0 0, .slice none 0 0, .int .i64 0]) := ⟨by
    have : mkL m 0 l = l := by unfold mkL; simp
    rw [this]
    exact ownN_below hown hb0, Ch.of_below hb0, hX0⟩
  clear hown hn hB hX0 hb0 hnl
  go_enter Try.func25, Try.ntmps25
  go_wp2_with fail
  try rw [hW0]
  go_loopw [5] (fun iv wr => ∃ (k : Nat), k ≤ n ∧ iv = .int .i64 (k : Int) ∧ Hid (OwnN wr B (.slice va n vc) (mkL m k l) ∧ Ch (fun k => (Value.slice va n vc).ownBlock = some k) w wr ∧ Box wr w.heap.size 66 #[.slice none 0 0, .slice none 0 0, .int .i64 0])) (fun iv _ => n - (intOf iv).toNat)
  case atStart => exact ⟨0, Nat.zero_le _, rfl, hst.out⟩
  case round =>
    obtain ⟨k, hk, rfl, HO⟩ := hrel
    clear hst hW0
    have k0 : (0 : Int) ≤ (k : Int) := Int.natCast_nonneg _
    by_cases hlt : k < n
    · have k1 : (k : Int) < (n : Int) := Int.ofNat_lt.2 hlt
      have hll := HH.out.1
      have hlk : (mkL m k l).length = n := by rw [mkL_len m k l (by omega), hll]
      obtain ⟨g, rfl⟩ : ∃ g, va = some ⟨g, 0, none⟩ := by
        rcases ownN_form HO.out.1 with ⟨h, h'⟩ | ⟨g, cap, h⟩
        · rw [h'] at hlk; simp at hlk; omega
        · injection h with h; exact ⟨g, h⟩
      have hO1 : OwnN wr B (.slice (some ⟨g, 0, none⟩) (mkL m k l).length vc) (mkL m k l) := by rw [hlk]; exact HO.out.1
      obtain ⟨b', o', e', q0, q1, q2, q3, q4⟩ := (ownN_row hO1).1 k (by omega)
      have e1 : g = b' := congrArg Addr.block (Option.some.inj e')
      have e2 : 0 = o' := congrArg Addr.off (Option.some.inj e')
      subst e1 e2
      rw [Nat.zero_add] at q0 q1 q2 q3 q4
      have r0 := own_free hO1 (k * 5)
      have r1 := own_free hO1 (k * 5 + 1)
      have r2 := own_free hO1 (k * 5 + 2)
      have r3 := own_free hO1 (k * 5 + 3)
      have r4 := own_free hO1 (k * 5 + 4)
      have hset := ownN_set hO1 k (by omega) (mkN m k)
      rw [mkL_step m k l (by omega), hlk] at hset
      have hgB : B ≤ g ∧ g ≠ w.heap.size := by
        rcases hO1.2 with ⟨h, _⟩ | ⟨g', cap, cur, h, h3, h4, _⟩
        · injection h with h; cases h
        · injection h with h _ _
          injection h with h
          injection h with h
          subst h
          refine ⟨h3, fun e => ?_⟩
          subst e
          have := HO.out.2.2
          unfold Box at this
          rw [h4] at this
          injection this with this
          injection this with _ this
          exact absurd this (by decide)
      obtain ⟨kk, hkk⟩ : ∃ kk, kk = k + 1 := ⟨_, rfl⟩
      have hwk : Hid (wrap64 ((k : Int) + 1) = (kk : Int)) := by unfold Hid; rw [hkk]; exact wo_up k (by have := HH.out.2.1; omega)
      have hfin : Hid (OwnN (((((wr.setCell ⟨g, k * 5, none⟩ (.int .i64 m)).setCell ⟨g, k * 5 + 1, none⟩ (.int .i64 0)).setCell ⟨g, k * 5 + 2, none⟩ (.bool false)).setCell ⟨g, k * 5 + 3, none⟩ (.int .i64 (k : Int))).setCell ⟨g, k * 5 + 4, none⟩ (.string ⟨#[]⟩)) B (.slice (some ⟨g, 0, none⟩) n vc) (mkL m kk l) ∧ Ch (fun k => (Value.slice (some ⟨g, 0, none⟩) n vc).ownBlock = some k) w (((((wr.setCell ⟨g, k * 5, none⟩ (.int .i64 m)).setCell ⟨g, k * 5 + 1, none⟩ (.int .i64 0)).setCell ⟨g, k * 5 + 2, none⟩ (.bool false)).setCell ⟨g, k * 5 + 3, none⟩ (.int .i64 (k : Int))).setCell ⟨g, k * 5 + 4, none⟩ (.string ⟨#[]⟩)) ∧ Box (((((wr.setCell ⟨g, k * 5, none⟩ (.int .i64 m)).setCell ⟨g, k * 5 + 1, none⟩ (.int .i64 0)).setCell ⟨g, k * 5 + 2, none⟩ (.bool false)).setCell ⟨g, k * 5 + 3, none⟩ (.int .i64 (k : Int))).setCell ⟨g, k * 5 + 4, none⟩ (.string ⟨#[]⟩)) w.heap.size 66 #[.slice none 0 0, .slice none 0 0, .int .i64 0]) := by
        rw [hkk]
        have hks : (Value.slice (some ⟨g, 0, none⟩) n vc).ownBlock = some g := rfl
        refine ⟨hset, ((((HO.out.2.1.put g _ _ hks).put g _ _ hks).put g _ _ hks).put g _ _ hks).put g _ _ hks, ?_⟩
        have hne : w.heap.size ≠ g := fun e => hgB.2 e.symm
        exact HO.out.2.2.of (((((Below.heap_setCell _ _ _ _ hne).trans (Below.heap_setCell _ _ _ _ hne)).trans (Below.heap_setCell _ _ _ _ hne)).trans (Below.heap_setCell _ _ _ _ hne)).trans (Below.heap_setCell _ _ _ _ hne))
      have hlt' : Hid (k < n ∧ kk = k + 1 ∧ kk ≤ n) := ⟨hlt, hkk, by omega⟩
      have hwk' := hwk.out
      generalize (mkL m k l)[k].dep = z0 at *
      generalize (mkL m k l)[k].cls = z1 at *
      generalize (mkL m k l)[k].made = z2 at *
      generalize (mkL m k l)[k].tag = z3 at *
      generalize (mkL m k l)[k].body = z4 at *
      clear HO HH hO1 hset hgB hkk hwk hlk hll hk hlt e'
      go_wp2_with fail
      rw [hwk']
      exact ⟨⟨kk, hlt'.out.2.2, rfl, hfin.out⟩, meas_o n k kk hlt'.out.1 hlt'.out.2.1⟩
    · obtain rfl : k = n := by omega
      have k1 : ¬ (k : Int) < (k : Int) := by omega
      have hll := HH.out.1
      have hmk : mkL m k l = (List.range k).map (mkN m) := by rw [← hll]; exact mkL_end m l
      have HO' := HO.out
      rw [hmk] at HO'
      have hlen : ((List.range k).map (mkN m)).length = k := by rw [List.length_map, List.length_range]
      obtain ⟨Wa, hWa⟩ : ∃ Wa, wr.alloc (.cells #[.int .i64 m, .int .i64 0, .bool false, .int .i64 (k : Int), .string ⟨#[]⟩] 39) = Wa := ⟨_, rfl⟩
      have hba : Below wr.heap.size wr Wa := by rw [← hWa]; exact (Below.refl _ _).alloc (Nat.le_refl _) _
      have hga : Wa.heap[wr.heap.size]? = some (.cells #[.int .i64 m, .int .i64 0, .bool false, .int .i64 (k : Int), .string ⟨#[]⟩] 39 (0, 0)) := by rw [← hWa]; exact World.alloc_heap_new wr _
      have hsz := HO'.2.1.2.2.2.1
      obtain ⟨more, w', hr, hM, hgr, hob⟩ := more_any Wa B (.slice va k vc) ((List.range k).map (mkN m)) m wr.heap.size (by rw [hlen]) (ownN_below HO'.1 hba) (by rw [hlen]; exact hga) (by have := hba.size; have := HH.out.2.2.1; omega) (by rw [hlen]; exact HH.out.2.1)
      rw [hlen] at hM
      have hXa : Box Wa w.heap.size 66 #[.slice none 0 0, .slice none 0 0, .int .i64 0] := HO'.2.2.below hba
      have hvx : (Value.slice va k vc).ownBlock ≠ some w.heap.size := fun e => by
        have hlt' := (ownN_form HH.out.2.2.2)
        rcases HH.out.2.2.2.2 with ⟨h, _⟩ | ⟨g', cap, cur, h, h3, h4, _⟩
        · rw [h] at e; simp [Value.ownBlock] at e
        · rw [h] at e
          simp [Value.ownBlock] at e
          have := (Array.getElem?_eq_some_iff.1 h4).1
          omega
      have hmx : more.ownBlock ≠ some w.heap.size := by
        rcases hob with h | h
        · rw [h]; exact hvx
        · rw [h]
          intro e
          injection e with e
          have := hXa.lt
          omega
      have hX' : Box w' w.heap.size 66 #[.slice none 0 0, .slice none 0 0, .int .i64 0] := hXa.of (hgr.block _ hXa.lt (fun e => hvx e.symm))
      obtain ⟨x0, x0f⟩ := at_of hX' (j := 0) (v := .slice none 0 0) rfl
      obtain ⟨x1, x1f⟩ := at_of hX' (j := 1) (v := .slice none 0 0) rfl
      obtain ⟨x2, x2f⟩ := at_of hX' (j := 2) (v := .int .i64 0) rfl
      obtain ⟨ma, mc, hmore⟩ : ∃ a c, more = .slice a (k + 1) c := by
        obtain ⟨_, a, c, e, _⟩ := hM
        exact ⟨a, c, e⟩
      have hBw : Ch (fun k' => (Value.slice va k vc).ownBlock = some k') w w' := (HO'.2.1.trans (Ch.of_below hba)).trans (Ch.of_grown hgr (fun r hr => hr))
      have hmo : ∀ g, more.ownBlock = some g → (Value.slice va k vc).ownBlock = some g ∨ w.heap.size ≤ g := fun g hg => by
        rcases hob with h | h
        · exact Or.inl (h ▸ hg)
        · rw [h] at hg; injection hg with hg; have := hba.size; exact Or.inr (by omega)
      have hfin : Hid (Mkd (((w'.setCell ⟨w.heap.size, 0, none⟩ (.slice va k vc)).setCell ⟨w.heap.size, 1, none⟩ more).setCell ⟨w.heap.size, 2, none⟩ (.int .i64 m)) (.slice va k vc) more m k ∧ Ch (fun k' => (Value.slice va k vc).ownBlock = some k') w (((w'.setCell ⟨w.heap.size, 0, none⟩ (.slice va k vc)).setCell ⟨w.heap.size, 1, none⟩ more).setCell ⟨w.heap.size, 2, none⟩ (.int .i64 m))) :=
        ⟨((hM.set _ 0 _ hvx hmx).set _ 1 _ hvx hmx).set _ 2 _ hvx hmx, ((hBw.setNew _ _ (Nat.le_refl _)).setNew _ _ (Nat.le_refl _)).setNew _ _ (Nat.le_refl _)⟩
      have hX3 : Box (((w'.setCell ⟨w.heap.size, 0, none⟩ (.slice va k vc)).setCell ⟨w.heap.size, 1, none⟩ more).setCell ⟨w.heap.size, 2, none⟩ (.int .i64 m)) w.heap.size 66 #[.slice va k vc, more, .int .i64 m] := ((hX'.set 0 (.slice va k vc)).set 1 more).set 2 (.int .i64 m)
      have y0 := (at_of hX3 (j := 0) (v := .slice va k vc) rfl).1
      have y1 := (at_of hX3 (j := 1) (v := more) rfl).1
      have y2 := (at_of hX3 (j := 2) (v := .int .i64 m) rfl).1
      subst hmore
      clear HO HO' HH hga hba hM hgr hob hXa hvx hmx hX' hX3 hBw hsz hlen hmk hll
      go_wp2_with (at_builtin; refine Lib.wpList_append_run _ rfl _ _ _ _ rfl _ _ rfl rfl _ _ hr ?_; clear hr)
      refine bodyPost_ret_by (v := .agg #[.slice va k vc, .slice ma (k + 1) mc, .int .i64 m]) ?_ rfl ⟨_, rfl, hfin.out.1, hfin.out.2, hmo⟩
      simp [results, Try.results25, go_sem, y0, y1, y2]
end Go.Proofs.Ytgfonnjblbpogaa

namespace Go.Proofs.Ytgfonnjblbpogaa
open Go.RowKit
set_option linter.unusedVariables false

/-- An element, its class any number. -/
structure Em where
  cls : Int
  made : Bool
  tag : Int
  body : ByteArray
def gV (e : Em) : List Value := [.int .i64 e.cls, .bool e.made, .int .i64 e.tag, .string e.body]
def gv (l : List Em) : List Value := l.flatMap gV
theorem gv_snoc (l : List Em) (e : Em) : gv (l ++ [e]) = gv l ++ gV e := by simp [gv]
theorem gV_one (e : Em) : ∀ u ∈ gV e, u.oneCell' = true := by
  intro u hu
  simp [gV] at hu
  rcases hu with rfl | rfl | rfl | rfl <;> rfl
theorem gv_len (l : List Em) : (gv l).length = l.length * 4 := by
  induction l with
  | nil => rfl
  | cons x l ih => show (gV x ++ gv l).length = _; rw [List.length_append, ih, List.length_cons]; simp [gV]; omega
theorem info_em : (Try.prog.info? 56).map (fun i => (i.zero, i.size, i.bytes)) = some (some (.agg #[.int .i64 0, .bool false, .int .i64 0, .string ⟨#[]⟩]), 4, 40) := by kernel_rfl
def OwnG (W : World) (B : Nat) (v : Value) (l : List Em) : Prop := W.ownsRow B 56 4 v l.length (gv l)
theorem ownG_below {w w' : World} {B : Nat} {v : Value} {l : List Em} (h : OwnG w B v l) (hb : Below w.heap.size w w') : OwnG w' B v l := by
  rcases h with ⟨h1, ⟨rfl, h2⟩ | ⟨g, cap, cur, rfl, h3, h4, h5⟩⟩
  · exact ⟨h1, Or.inl ⟨rfl, h2⟩⟩
  · exact ⟨h1, Or.inr ⟨g, cap, cur, rfl, h3, by rw [hb.block g (Array.getElem?_eq_some_iff.1 h4).1]; exact h4, h5⟩⟩
theorem ownG_form {w : World} {B : Nat} {v : Value} {l : List Em} (h : OwnG w B v l) : (v = .slice none 0 0 ∧ l = []) ∨ (∃ g cap, v = .slice (some ⟨g, 0, none⟩) l.length cap) := by
  rcases h.2 with ⟨rfl, hn⟩ | ⟨g, cap, cur, rfl, _⟩
  · exact Or.inl ⟨rfl, List.eq_nil_of_length_eq_zero hn⟩
  · exact Or.inr ⟨g, cap, rfl⟩
theorem gv_at (l : List Em) (i : Nat) (hi : i < l.length) (j : Nat) (hj : j < 4) : (gv l)[i * 4 + j]? = (gV l[i])[j]? := by
  induction l generalizing i with
  | nil => simp at hi
  | cons x l ih =>
    cases i with
    | zero =>
      show (gV x ++ gv l)[0 * 4 + j]? = _
      rw [List.getElem?_append_left (by simp [gV]; omega)]
      simp
    | succ i =>
      show (gV x ++ gv l)[(i + 1) * 4 + j]? = _
      have e : (i + 1) * 4 + j = (gV x).length + (i * 4 + j) := by simp [gV]; omega
      rw [e, List.getElem?_append_right (by omega), Nat.add_sub_cancel_left, ih i (by simpa using hi)]
      rfl
/-- A row of elements, wherever it lies. -/
def GmRow (w : World) (a : Option Addr) (l : List Em) : Prop := ∀ i (hi : i < l.length), ∃ b off, a = some ⟨b, off, none⟩ ∧ w.cell? ⟨b, off + i * 4, none⟩ = some (.int .i64 l[i].cls) ∧ w.cell? ⟨b, off + i * 4 + 1, none⟩ = some (.bool l[i].made) ∧ w.cell? ⟨b, off + i * 4 + 2, none⟩ = some (.int .i64 l[i].tag) ∧ w.cell? ⟨b, off + i * 4 + 3, none⟩ = some (.string l[i].body)
theorem GmRow.below {w w' : World} {a : Option Addr} {l : List Em} (h : GmRow w a l) (hb : Below w.heap.size w w') : GmRow w' a l := fun i hi => by
  obtain ⟨b, off, e, h0, h1, h2, h3⟩ := h i hi
  have hlt : b < w.heap.size := World.block_lt_of_cell? w _ h0
  exact ⟨b, off, e, (hb.cell hlt).trans h0, (hb.cell hlt).trans h1, (hb.cell hlt).trans h2, (hb.cell hlt).trans h3⟩
theorem ownG_cells {w : World} {g : Nat} {l : List Em} (key : ∀ i (hi : i < l.length) j, j < 4 → w.cell? ⟨g, i * 4 + j, none⟩ = (gV l[i])[j]?) : GmRow w (some ⟨g, 0, none⟩) l := fun i hi => by
  refine ⟨g, 0, rfl, ?_, ?_, ?_, ?_⟩
  · rw [Nat.zero_add]; exact key i hi 0 (by omega)
  · rw [Nat.zero_add]; exact key i hi 1 (by omega)
  · rw [Nat.zero_add]; exact key i hi 2 (by omega)
  · rw [Nat.zero_add]; exact key i hi 3 (by omega)
theorem ownG_any {w : World} {B : Nat} {v : Value} {l : List Em} (h : OwnG w B v l) : ∃ a c, v = .slice a l.length c ∧ GmRow w a l := by
  have h0 := h
  rcases ownG_form h with ⟨e, rfl⟩ | ⟨g, cap, rfl⟩
  · exact ⟨_, _, e, fun i hi => by simp at hi⟩
  · refine ⟨_, _, rfl, ownG_cells (fun i hi j hj => ?_)⟩
    have hc := World.ownsRow.cellAt (show w.ownsRow B 56 4 _ l.length (gv l) from h0) (i * 4 + j) (by omega)
    rw [hc]
    exact gv_at l i hi j hj
/-- The element with a mark. -/
def mkE (m : Int) (i : Nat) : Em := ⟨m, false, (i : Int), ⟨#[]⟩⟩
theorem gv_set (l : List Em) (i : Nat) (hi : i < l.length) (e : Em) : ((((gv l).set (i * 4) (.int .i64 e.cls)).set (i * 4 + 1) (.bool e.made)).set (i * 4 + 2) (.int .i64 e.tag)).set (i * 4 + 3) (.string e.body) = gv (l.set i e) := by
  apply List.ext_getElem?
  intro k
  by_cases hk : k < l.length * 4
  · obtain ⟨q, r, rfl, hr⟩ : ∃ q r, k = q * 4 + r ∧ r < 4 := ⟨k / 4, k % 4, by omega, Nat.mod_lt _ (by decide)⟩
    have hq : q < l.length := by omega
    rw [gv_at (l.set i e) q (by rw [List.length_set]; exact hq) r hr]
    by_cases e' : q = i
    · subst e'
      rw [List.getElem_set_self]
      rcases r with _ | _ | _ | _ | r
      · rw [List.getElem?_set_ne (by omega), List.getElem?_set_ne (by omega), List.getElem?_set_ne (by omega), Nat.add_zero, List.getElem?_set_self (by rw [gv_len]; omega)]; rfl
      · rw [List.getElem?_set_ne (by omega), List.getElem?_set_ne (by omega), List.getElem?_set_self (by rw [List.length_set, gv_len]; omega)]; rfl
      · rw [List.getElem?_set_ne (by omega), List.getElem?_set_self (by rw [List.length_set, List.length_set, gv_len]; omega)]; rfl
      · rw [List.getElem?_set_self (by rw [List.length_set, List.length_set, List.length_set, gv_len]; omega)]; rfl
      · omega
    · rw [List.getElem_set_ne (fun h => e' h.symm), List.getElem?_set_ne (by omega), List.getElem?_set_ne (by omega), List.getElem?_set_ne (by omega), List.getElem?_set_ne (by omega)]
      exact gv_at l q hq r hr
  · rw [List.getElem?_eq_none (by rw [List.length_set, List.length_set, List.length_set, List.length_set, gv_len]; omega), List.getElem?_eq_none (by rw [gv_len, List.length_set]; omega)]
theorem ownG_set {w : World} {B g cap : Nat} {l : List Em} (h : OwnG w B (.slice (some ⟨g, 0, none⟩) l.length cap) l) (i : Nat) (hi : i < l.length) (e : Em) :
    OwnG ((((w.setCell ⟨g, i * 4, none⟩ (.int .i64 e.cls)).setCell ⟨g, i * 4 + 1, none⟩ (.bool e.made)).setCell ⟨g, i * 4 + 2, none⟩ (.int .i64 e.tag)).setCell ⟨g, i * 4 + 3, none⟩ (.string e.body)) B (.slice (some ⟨g, 0, none⟩) l.length cap) (l.set i e) := by
  have := own_setAt (own_setAt (own_setAt (own_setAt h (i * 4) (.int .i64 e.cls)) (i * 4 + 1) (.bool e.made)) (i * 4 + 2) (.int .i64 e.tag)) (i * 4 + 3) (.string e.body)
  rw [gv_set l i hi e] at this
  unfold OwnG
  rw [List.length_set]
  exact this
def meL (m : Int) (k : Nat) (l : List Em) : List Em := (List.range k).map (mkE m) ++ l.drop k
theorem meL_len (m : Int) (k : Nat) (l : List Em) (h : k ≤ l.length) : (meL m k l).length = l.length := by unfold meL; rw [List.length_append, List.length_map, List.length_range, List.length_drop]; omega
theorem meL_step (m : Int) (k : Nat) (l : List Em) (h : k < l.length) : (meL m k l).set k (mkE m k) = meL m (k + 1) l := by
  unfold meL
  rw [List.set_append_right _ _ (by rw [List.length_map, List.length_range]; exact Nat.le_refl _), List.length_map, List.length_range, Nat.sub_self, List.range_succ, List.map_append, List.append_assoc]
  congr 1
  rw [show l.drop k = l[k] :: l.drop (k + 1) from List.drop_eq_getElem_cons h]
  rfl
theorem meL_end (m : Int) (l : List Em) : meL m l.length l = (List.range l.length).map (mkE m) := by unfold meL; rw [List.drop_length, List.append_nil]
/-- A list with its marks, and the one with one more. -/
def Mke (W : World) (v more : Value) (m : Int) (n : Nat) : Prop :=
  (∃ a c, v = .slice a n c ∧ GmRow W a ((List.range n).map (mkE m))) ∧ (∃ a c, more = .slice a (n + 1) c ∧ GmRow W a ((List.range (n + 1)).map (mkE m)))
theorem Mke.below {W W' : World} {v more : Value} {m : Int} {n : Nat} (h : Mke W v more m n) (hb : Below W.heap.size W W') : Mke W' v more m n := by
  obtain ⟨⟨a, c, e, r⟩, ⟨a', c', e', r'⟩⟩ := h
  exact ⟨⟨a, c, e, r.below hb⟩, ⟨a', c', e', r'.below hb⟩⟩
theorem GmRow.set {w : World} {a : Option Addr} {l : List Em} (h : GmRow w a l) (x j : Nat) (u : Value) (hx : ∀ b off, a = some ⟨b, off, none⟩ → b ≠ x) : GmRow (w.setCell ⟨x, j, none⟩ u) a l := fun i hi => by
  obtain ⟨b, off, e, h0, h1, h2, h3⟩ := h i hi
  have hne := hx b off e
  exact ⟨b, off, e, by rw [cell_setB hne]; exact h0, by rw [cell_setB hne]; exact h1, by rw [cell_setB hne]; exact h2, by rw [cell_setB hne]; exact h3⟩
theorem Mke.set {W : World} {v more : Value} {m : Int} {n : Nat} (h : Mke W v more m n) (x j : Nat) (u : Value) (h1 : v.ownBlock ≠ some x) (h2 : more.ownBlock ≠ some x) : Mke (W.setCell ⟨x, j, none⟩ u) v more m n := by
  obtain ⟨⟨a, c, rfl, r⟩, ⟨a', c', rfl, r'⟩⟩ := h
  exact ⟨⟨a, c, rfl, r.set x j u (fun b off e hb => h1 (by rw [e, hb]; rfl))⟩, ⟨a', c', rfl, r'.set x j u (fun b off e hb => h2 (by rw [e, hb]; rfl))⟩⟩
/-- One more, the marks kept. -/
theorem moreE_any (w : World) (B : Nat) (v : Value) (l : List Em) (m : Int) (g : Nat) (hl : l = (List.range l.length).map (mkE m)) (hown : OwnG w B v l) (hg : w.heap[g]? = some (.cells #[.int .i64 m, .bool false, .int .i64 (l.length : Int), .string ⟨#[]⟩] 56 (0, 0))) (hB : B ≤ w.heap.size) (hn : l.length ≤ 4294967296) :
    ∃ v' w', (Builtin.append_ #[47, 47] 47 #[v, .slice (some ⟨g, 0, none⟩) 1 1]).run Try.prog w = .ok v' w' ∧ Mke w' v v' m l.length ∧ w.grownBy w' v.ownBlock ∧ (v'.ownBlock = v.ownBlock ∨ v'.ownBlock = some w.heap.size) := by
  obtain ⟨i0, hi, hz0, hz1, hz2⟩ := info_parts info_em
  obtain ⟨v', w', hr, h2, h3, h4, h5⟩ := append_both (P := Try.prog) w B 47 47 56 i0 _ 4 40 Try.underlying47 hi hz0 hz1 hz2 rfl (by decide) v l.length (gv l) hown ⟨g, 0, none⟩ 1 1 (gV (mkE m l.length)) rfl (World.news_of_block hg) (gV_one _) (by decide) (by unfold maxLen; omega) (by omega) hB
  refine ⟨v', w', hr, ⟨?_, ?_⟩, h3, h5⟩
  · rcases ownG_form hown with ⟨rfl, h0⟩ | ⟨g', cap, rfl⟩
    · subst h0
      exact ⟨none, 0, rfl, fun i hi => by simp at hi⟩
    · refine ⟨_, _, rfl, ?_⟩
      rw [← hl]
      intro i hi
      have key : ∀ j, j < 4 → w'.cell? ⟨g', i * 4 + j, none⟩ = (gV l[i])[j]? := fun j hj => by
        have hx := gv_at l i hi j hj
        cases hu : (gV l[i])[j]? with
        | none => rw [List.getElem?_eq_none_iff] at hu; simp [gV] at hu; omega
        | some u => rw [hu] at hx; exact h4 g' cap rfl _ u hx
      refine ⟨g', 0, rfl, ?_, ?_, ?_, ?_⟩
      · rw [Nat.zero_add]; exact key 0 (by omega)
      · rw [Nat.zero_add]; exact key 1 (by omega)
      · rw [Nat.zero_add]; exact key 2 (by omega)
      · rw [Nat.zero_add]; exact key 3 (by omega)
  · have ho' : OwnG w' B v' (l ++ [mkE m l.length]) := by
      unfold OwnG
      rw [gv_snoc, List.length_append]
      exact h2
    obtain ⟨a, c, e, r⟩ := ownG_any ho'
    rw [List.length_append] at e
    refine ⟨a, c, e, ?_⟩
    have e2 : (List.range (l.length + 1)).map (mkE m) = l ++ [mkE m l.length] := by
      rw [List.range_succ, List.map_append, ← hl]
      rfl
    rw [e2]
    exact r
set_option maxRecDepth 100000 in
set_option maxHeartbeats 4000000 in
theorem markElems_any (B : Nat) (v : Value) (l : List Em) (m : Int) (w : World) (hown : OwnG w B v l) (hB : B ≤ w.heap.size) (hn : l.length ≤ 4294967296) :
    Calls Try.prog 22 #[v, .int .i64 m] w fun r w' => ∃ more, r = .returned (.agg #[v, more, .int .i64 m]) ∧ Mke w' v more m l.length ∧ Ch (fun k => v.ownBlock = some k) w w' ∧ ∀ g, more.ownBlock = some g → v.ownBlock = some g ∨ w.heap.size ≤ g := by
  obtain ⟨va, vc, hv, _⟩ := ownG_any hown
  subst hv
  obtain ⟨n, hnl⟩ : ∃ n, l.length = n := ⟨_, rfl⟩
  rw [hnl] at hown hn ⊢
  obtain ⟨W0, hW0⟩ : ∃ W0, w.alloc (.cells #[.slice none 0 0, .slice none 0 0, .int .i64 0] 62) = W0 := ⟨_, rfl⟩
  have hX0 : Box W0 w.heap.size 62 #[.slice none 0 0, .slice none 0 0, .int .i64 0] := by rw [← hW0]; exact Box.new _ _ _
  have hb0 : Below w.heap.size w W0 := by rw [← hW0]; exact (Below.refl _ _).alloc (Nat.le_refl _) _
  have HH : Hid (l.length = n ∧ n ≤ 4294967296 ∧ B ≤ w.heap.size ∧ OwnG w B (.slice va n vc) l) := ⟨hnl, hn, hB, hown⟩
  have hst : Hid (OwnG W0 B (.slice va n vc) (meL m 0 l) ∧ Ch (fun k => (Value.slice va n vc).ownBlock = some k) w W0 ∧ Box W0 w.heap.size 62 #[.slice none 0 0, .slice none 0 0, .int .i64 0]) := ⟨by
    have : meL m 0 l = l := by unfold meL; simp
    rw [this]
    exact ownG_below hown hb0, Ch.of_below hb0, hX0⟩
  clear hown hn hB hX0 hb0 hnl
  go_enter Try.func22, Try.ntmps22
  go_wp2_with fail
  try rw [hW0]
  go_loopw [5] (fun iv wr => ∃ (k : Nat), k ≤ n ∧ iv = .int .i64 (k : Int) ∧ Hid (OwnG wr B (.slice va n vc) (meL m k l) ∧ Ch (fun k => (Value.slice va n vc).ownBlock = some k) w wr ∧ Box wr w.heap.size 62 #[.slice none 0 0, .slice none 0 0, .int .i64 0])) (fun iv _ => n - (intOf iv).toNat)
  case atStart => exact ⟨0, Nat.zero_le _, rfl, hst.out⟩
  case round =>
    obtain ⟨k, hk, rfl, HO⟩ := hrel
    clear hst hW0
    have k0 : (0 : Int) ≤ (k : Int) := Int.natCast_nonneg _
    by_cases hlt : k < n
    · have k1 : (k : Int) < (n : Int) := Int.ofNat_lt.2 hlt
      have hll := HH.out.1
      have hlk : (meL m k l).length = n := by rw [meL_len m k l (by omega), hll]
      obtain ⟨g, rfl⟩ : ∃ g, va = some ⟨g, 0, none⟩ := by
        rcases ownG_form HO.out.1 with ⟨h, h'⟩ | ⟨g, cap, h⟩
        · rw [h'] at hlk; simp at hlk; omega
        · injection h with h; exact ⟨g, h⟩
      have hO1 : OwnG wr B (.slice (some ⟨g, 0, none⟩) (meL m k l).length vc) (meL m k l) := by rw [hlk]; exact HO.out.1
      obtain ⟨_, _, hsl, hgr⟩ := ownG_any hO1
      injection hsl with hsl _ _
      subst hsl
      obtain ⟨b', o', e', q0, q1, q2, q3⟩ := hgr k (by omega)
      have e1 : g = b' := congrArg Addr.block (Option.some.inj e')
      have e2 : 0 = o' := congrArg Addr.off (Option.some.inj e')
      subst e1 e2
      rw [Nat.zero_add] at q0 q1 q2 q3
      have r0 := own_free hO1 (k * 4)
      have r1 := own_free hO1 (k * 4 + 1)
      have r2 := own_free hO1 (k * 4 + 2)
      have r3 := own_free hO1 (k * 4 + 3)
      have hset := ownG_set hO1 k (by omega) (mkE m k)
      rw [meL_step m k l (by omega), hlk] at hset
      have hgB : B ≤ g ∧ g ≠ w.heap.size := by
        rcases hO1.2 with ⟨h, _⟩ | ⟨g', cap, cur, h, h3, h4, _⟩
        · injection h with h; cases h
        · injection h with h _ _
          injection h with h
          injection h with h
          subst h
          refine ⟨h3, fun e => ?_⟩
          subst e
          have := HO.out.2.2
          unfold Box at this
          rw [h4] at this
          injection this with this
          injection this with _ this
          exact absurd this (by decide)
      obtain ⟨kk, hkk⟩ : ∃ kk, kk = k + 1 := ⟨_, rfl⟩
      have hwk : Hid (wrap64 ((k : Int) + 1) = (kk : Int)) := by unfold Hid; rw [hkk]; exact wo_up k (by have := HH.out.2.1; omega)
      have hfin : Hid (OwnG ((((wr.setCell ⟨g, k * 4, none⟩ (.int .i64 m)).setCell ⟨g, k * 4 + 1, none⟩ (.bool false)).setCell ⟨g, k * 4 + 2, none⟩ (.int .i64 (k : Int))).setCell ⟨g, k * 4 + 3, none⟩ (.string ⟨#[]⟩)) B (.slice (some ⟨g, 0, none⟩) n vc) (meL m kk l) ∧ Ch (fun k => (Value.slice (some ⟨g, 0, none⟩) n vc).ownBlock = some k) w ((((wr.setCell ⟨g, k * 4, none⟩ (.int .i64 m)).setCell ⟨g, k * 4 + 1, none⟩ (.bool false)).setCell ⟨g, k * 4 + 2, none⟩ (.int .i64 (k : Int))).setCell ⟨g, k * 4 + 3, none⟩ (.string ⟨#[]⟩)) ∧ Box ((((wr.setCell ⟨g, k * 4, none⟩ (.int .i64 m)).setCell ⟨g, k * 4 + 1, none⟩ (.bool false)).setCell ⟨g, k * 4 + 2, none⟩ (.int .i64 (k : Int))).setCell ⟨g, k * 4 + 3, none⟩ (.string ⟨#[]⟩)) w.heap.size 62 #[.slice none 0 0, .slice none 0 0, .int .i64 0]) := by
        rw [hkk]
        have hks : (Value.slice (some ⟨g, 0, none⟩) n vc).ownBlock = some g := rfl
        refine ⟨hset, (((HO.out.2.1.put g _ _ hks).put g _ _ hks).put g _ _ hks).put g _ _ hks, ?_⟩
        have hne : w.heap.size ≠ g := fun e => hgB.2 e.symm
        exact HO.out.2.2.of ((((Below.heap_setCell _ _ _ _ hne).trans (Below.heap_setCell _ _ _ _ hne)).trans (Below.heap_setCell _ _ _ _ hne)).trans (Below.heap_setCell _ _ _ _ hne))
      have hlt' : Hid (k < n ∧ kk = k + 1 ∧ kk ≤ n) := ⟨hlt, hkk, by omega⟩
      have hwk' := hwk.out
      generalize (meL m k l)[k].cls = z1 at *
      generalize (meL m k l)[k].made = z2 at *
      generalize (meL m k l)[k].tag = z3 at *
      generalize (meL m k l)[k].body = z4 at *
      clear HO HH hO1 hset hgB hkk hwk hlk hll hk hlt e'
      go_wp2_with fail
      rw [hwk']
      exact ⟨⟨kk, hlt'.out.2.2, rfl, hfin.out⟩, meas_o n k kk hlt'.out.1 hlt'.out.2.1⟩
    · obtain rfl : k = n := by omega
      have k1 : ¬ (k : Int) < (k : Int) := by omega
      have hll := HH.out.1
      have hmk : meL m k l = (List.range k).map (mkE m) := by rw [← hll]; exact meL_end m l
      have HO' := HO.out
      rw [hmk] at HO'
      have hlen : ((List.range k).map (mkE m)).length = k := by rw [List.length_map, List.length_range]
      obtain ⟨Wa, hWa⟩ : ∃ Wa, wr.alloc (.cells #[.int .i64 m, .bool false, .int .i64 (k : Int), .string ⟨#[]⟩] 56) = Wa := ⟨_, rfl⟩
      have hba : Below wr.heap.size wr Wa := by rw [← hWa]; exact (Below.refl _ _).alloc (Nat.le_refl _) _
      have hga : Wa.heap[wr.heap.size]? = some (.cells #[.int .i64 m, .bool false, .int .i64 (k : Int), .string ⟨#[]⟩] 56 (0, 0)) := by rw [← hWa]; exact World.alloc_heap_new wr _
      have hsz := HO'.2.1.2.2.2.1
      obtain ⟨more, w', hr, hM, hgr, hob⟩ := moreE_any Wa B (.slice va k vc) ((List.range k).map (mkE m)) m wr.heap.size (by rw [hlen]) (ownG_below HO'.1 hba) (by rw [hlen]; exact hga) (by have := hba.size; have := HH.out.2.2.1; omega) (by rw [hlen]; exact HH.out.2.1)
      rw [hlen] at hM
      have hXa : Box Wa w.heap.size 62 #[.slice none 0 0, .slice none 0 0, .int .i64 0] := HO'.2.2.below hba
      have hvx : (Value.slice va k vc).ownBlock ≠ some w.heap.size := fun e => by
        have hlt' := (ownG_form HH.out.2.2.2)
        rcases HH.out.2.2.2.2 with ⟨h, _⟩ | ⟨g', cap, cur, h, h3, h4, _⟩
        · rw [h] at e; simp [Value.ownBlock] at e
        · rw [h] at e
          simp [Value.ownBlock] at e
          have := (Array.getElem?_eq_some_iff.1 h4).1
          omega
      have hmx : more.ownBlock ≠ some w.heap.size := by
        rcases hob with h | h
        · rw [h]; exact hvx
        · rw [h]
          intro e
          injection e with e
          have := hXa.lt
          omega
      have hX' : Box w' w.heap.size 62 #[.slice none 0 0, .slice none 0 0, .int .i64 0] := hXa.of (hgr.block _ hXa.lt (fun e => hvx e.symm))
      obtain ⟨x0, x0f⟩ := at_of hX' (j := 0) (v := .slice none 0 0) rfl
      obtain ⟨x1, x1f⟩ := at_of hX' (j := 1) (v := .slice none 0 0) rfl
      obtain ⟨x2, x2f⟩ := at_of hX' (j := 2) (v := .int .i64 0) rfl
      obtain ⟨ma, mc, hmore⟩ : ∃ a c, more = .slice a (k + 1) c := by
        obtain ⟨_, a, c, e, _⟩ := hM
        exact ⟨a, c, e⟩
      have hBw : Ch (fun k' => (Value.slice va k vc).ownBlock = some k') w w' := (HO'.2.1.trans (Ch.of_below hba)).trans (Ch.of_grown hgr (fun r hr => hr))
      have hmo : ∀ g, more.ownBlock = some g → (Value.slice va k vc).ownBlock = some g ∨ w.heap.size ≤ g := fun g hg => by
        rcases hob with h | h
        · exact Or.inl (h ▸ hg)
        · rw [h] at hg; injection hg with hg; have := hba.size; exact Or.inr (by omega)
      have hfin : Hid (Mke (((w'.setCell ⟨w.heap.size, 0, none⟩ (.slice va k vc)).setCell ⟨w.heap.size, 1, none⟩ more).setCell ⟨w.heap.size, 2, none⟩ (.int .i64 m)) (.slice va k vc) more m k ∧ Ch (fun k' => (Value.slice va k vc).ownBlock = some k') w (((w'.setCell ⟨w.heap.size, 0, none⟩ (.slice va k vc)).setCell ⟨w.heap.size, 1, none⟩ more).setCell ⟨w.heap.size, 2, none⟩ (.int .i64 m))) :=
        ⟨((hM.set _ 0 _ hvx hmx).set _ 1 _ hvx hmx).set _ 2 _ hvx hmx, ((hBw.setNew _ _ (Nat.le_refl _)).setNew _ _ (Nat.le_refl _)).setNew _ _ (Nat.le_refl _)⟩
      have hX3 : Box (((w'.setCell ⟨w.heap.size, 0, none⟩ (.slice va k vc)).setCell ⟨w.heap.size, 1, none⟩ more).setCell ⟨w.heap.size, 2, none⟩ (.int .i64 m)) w.heap.size 62 #[.slice va k vc, more, .int .i64 m] := ((hX'.set 0 (.slice va k vc)).set 1 more).set 2 (.int .i64 m)
      have y0 := (at_of hX3 (j := 0) (v := .slice va k vc) rfl).1
      have y1 := (at_of hX3 (j := 1) (v := more) rfl).1
      have y2 := (at_of hX3 (j := 2) (v := .int .i64 m) rfl).1
      subst hmore
      clear HO HO' HH hga hba hM hgr hob hXa hvx hmx hX' hX3 hBw hsz hlen hmk hll
      go_wp2_with (at_builtin; refine Lib.wpList_append_run _ rfl _ _ _ _ rfl _ _ rfl rfl _ _ hr ?_; clear hr)
      refine bodyPost_ret_by (v := .agg #[.slice va k vc, .slice ma (k + 1) mc, .int .i64 m]) ?_ rfl ⟨_, rfl, hfin.out.1, hfin.out.2, hmo⟩
      simp [results, Try.results22, go_sem, y0, y1, y2]
end Go.Proofs.Ytgfonnjblbpogaa

namespace Go.Proofs.Ytgfonnjblbpogaa
open Go.RowKit
set_option linter.unusedVariables false

set_option maxRecDepth 100000 in
set_option maxHeartbeats 4000000 in
theorem wholeN_any (v more : Value) (m : Int) (n : Nat) (w : World) (hM : Mkd w v more m n) (hn : n ≤ 4294967295) :
    Calls Try.prog 26 #[.agg #[v, more, .int .i64 m]] w fun r w' => r = .returned (.bool true) ∧ Below w.heap.size w w' := by
  obtain ⟨⟨a, c, rfl, r1⟩, ⟨a', c', rfl, r2⟩⟩ := hM
  obtain ⟨n', hn'⟩ : ∃ n', n' = n + 1 := ⟨_, rfl⟩
  rw [← hn'] at r2 ⊢
  obtain ⟨W0, hW0⟩ : ∃ W0, w.alloc (.cells #[.slice a n c, .slice a' n' c', .int .i64 m] 66) = W0 := ⟨_, rfl⟩
  have hb0 : Below w.heap.size w W0 := by rw [← hW0]; exact (Below.refl _ _).alloc (Nat.le_refl _) _
  have hX0 : Box W0 w.heap.size 66 #[.slice a n c, .slice a' n' c', .int .i64 m] := by rw [← hW0]; exact Box.new _ _ _
  have HH : Hid (NdRow W0 a ((List.range n).map (mkN m)) ∧ NdRow W0 a' ((List.range n').map (mkN m)) ∧ n ≤ 4294967295 ∧ n' = n + 1 ∧ Box W0 w.heap.size 66 #[.slice a n c, .slice a' n' c', .int .i64 m] ∧ Below w.heap.size w W0) := ⟨r1.below hb0, r2.below hb0, hn, hn', hX0, hb0⟩
  clear r1 r2 hn hn' hb0 hX0
  go_enter Try.func26, Try.ntmps26
  go_wp2_with fail
  try rw [hW0]
  go_loopw [3] (fun iv wr => ∃ (k q : Nat), k ≤ n' ∧ iv = .int .i64 (k : Int) ∧ Hid (wr = W0.drewN q)) (fun iv _ => n' - (intOf iv).toNat)
  case atStart => exact ⟨0, 0, Nat.zero_le _, rfl, rfl⟩
  case round =>
    obtain ⟨k, q, hk, rfl, hw⟩ := hrel
    clear hW0
    have k0 : (0 : Int) ≤ (k : Int) := Int.natCast_nonneg _
    have hE : ∀ a, wr.cell? a = W0.cell? a := fun a => by rw [hw.out]; rfl
    obtain ⟨h1, h2, hn, hn', hX, hB⟩ := HH.out
    have x0 := (at_of hX (j := 0) (v := .slice a n c) rfl).1
    have x1 := (at_of hX (j := 1) (v := .slice a' n' c') rfl).1
    have x2 := (at_of hX (j := 2) (v := .int .i64 m) rfl).1
    rw [← hE] at x0 x1 x2
    by_cases hlt : k < n'
    · have k1 : (k : Int) < (n' : Int) := Int.ofNat_lt.2 hlt
      obtain ⟨b2, o2, rfl, y0, y1, y2, y3, y4⟩ := h2 k (by rw [List.length_map, List.length_range]; exact hlt)
      simp only [List.getElem_map, List.getElem_range, mkN] at y0 y1 y2 y3 y4
      rw [← hE] at y0 y1 y2 y3 y4
      have hnq := fun W => ne_node m 0 false (k : Int) ⟨#[]⟩ W
      obtain ⟨kk, hkk⟩ : ∃ kk, kk = k + 1 := ⟨_, rfl⟩
      have hwk : Hid (wrap64 ((k : Int) + 1) = (kk : Int)) := by unfold Hid; rw [hkk]; exact wo_up k (by omega)
      have hlt' : Hid (k < n' ∧ kk = k + 1 ∧ kk ≤ n') := ⟨hlt, hkk, by omega⟩
      by_cases hln : k < n
      · have k2 : (k : Int) < (n : Int) := Int.ofNat_lt.2 hln
        obtain ⟨b1, o1, rfl, z0, z1, z2, z3, z4⟩ := h1 k (by rw [List.length_map, List.length_range]; exact hln)
        simp only [List.getElem_map, List.getElem_range, mkN] at z0 z1 z2 z3 z4
        rw [← hE] at z0 z1 z2 z3 z4
        have hd : decide (k < n) = true := decide_eq_true hln
        clear h1 h2 hX hB hE HH hk hlt hkk hn hn'
        go_upto_region 4 with fail
        go_quiet (fail)
        have hwk' := hwk.out
        go_wp2_with fail
        rw [hwk']
        exact ⟨⟨kk, q + nq, hlt'.out.2.2, rfl, by unfold Hid; rw [hw.out, World.drewN_drewN]⟩, meas_o n' k kk hlt'.out.1 hlt'.out.2.1⟩
      · have k2 : ¬ (k : Int) < (n : Int) := by omega
        have hd : decide (k < n) = false := decide_eq_false hln
        clear h1 h2 hX hB hE HH hk hlt hkk hn hn'
        go_upto_region 4 with fail
        go_quiet (fail)
        have hwk' := hwk.out
        go_wp2_with fail
        rw [hwk']
        exact ⟨⟨kk, q + nq, hlt'.out.2.2, rfl, by unfold Hid; rw [hw.out, World.drewN_drewN]⟩, meas_o n' k kk hlt'.out.1 hlt'.out.2.1⟩
    · obtain rfl : k = n' := by omega
      have k1 : ¬ (k : Int) < (k : Int) := by omega
      have hwn : Hid (wrap64 ((n : Int) + 1) = (k : Int)) := by unfold Hid; rw [hn']; exact wo_up n (by omega)
      have hwn' := hwn.out
      have hB' : Hid (Below w.heap.size w wr) := by unfold Hid; rw [hw.out]; exact hB.trans ⟨rfl, rfl, rfl, Nat.le_refl _, fun _ _ => rfl⟩
      clear h1 h2 hX hB hE HH hk hlt hn hn' hwn
      go_wp2_with fail
      go_ret
      exact ⟨rfl, hB'.out⟩
theorem ne_elem (c : Int) (m : Bool) (t : Int) (s : ByteArray) (W : World) :
    (binOp .neq 56 (.agg #[.int .i64 c, .bool m, .int .i64 t, .string s]) (.agg #[.int .i64 c, .bool m, .int .i64 t, .string s])).run Try.prog W = .ok (.bool false) W := by
  have hS : Try.prog.underlying 56 = some (.struct (Try.prog.fieldsOf 56)) := by kernel_rfl
  have hp : Try.prog.stoodInHeld 56 = false := by kernel_rfl
  rw [run_neq_struct, run_equalIn_struct _ _ _ _ _ hS hp]
  simp only [Program.fieldsOf, Try.underlying56]
  simp [Op.eqFields, go_sem]
set_option maxRecDepth 100000 in
set_option maxHeartbeats 4000000 in
theorem wholeE_any (v more : Value) (m : Int) (n : Nat) (w : World) (hM : Mke w v more m n) (hn : n ≤ 4294967295) :
    Calls Try.prog 27 #[.agg #[v, more, .int .i64 m]] w fun r w' => r = .returned (.bool true) ∧ Below w.heap.size w w' := by
  obtain ⟨⟨a, c, rfl, r1⟩, ⟨a', c', rfl, r2⟩⟩ := hM
  obtain ⟨n', hn'⟩ : ∃ n', n' = n + 1 := ⟨_, rfl⟩
  rw [← hn'] at r2 ⊢
  obtain ⟨W0, hW0⟩ : ∃ W0, w.alloc (.cells #[.slice a n c, .slice a' n' c', .int .i64 m] 62) = W0 := ⟨_, rfl⟩
  have hb0 : Below w.heap.size w W0 := by rw [← hW0]; exact (Below.refl _ _).alloc (Nat.le_refl _) _
  have hX0 : Box W0 w.heap.size 62 #[.slice a n c, .slice a' n' c', .int .i64 m] := by rw [← hW0]; exact Box.new _ _ _
  have HH : Hid (GmRow W0 a ((List.range n).map (mkE m)) ∧ GmRow W0 a' ((List.range n').map (mkE m)) ∧ n ≤ 4294967295 ∧ n' = n + 1 ∧ Box W0 w.heap.size 62 #[.slice a n c, .slice a' n' c', .int .i64 m] ∧ Below w.heap.size w W0) := ⟨r1.below hb0, r2.below hb0, hn, hn', hX0, hb0⟩
  clear r1 r2 hn hn' hb0 hX0
  go_enter Try.func27, Try.ntmps27
  go_wp2_with fail
  try rw [hW0]
  go_loopw [3] (fun iv wr => ∃ (k q : Nat), k ≤ n' ∧ iv = .int .i64 (k : Int) ∧ Hid (wr = W0.drewN q)) (fun iv _ => n' - (intOf iv).toNat)
  case atStart => exact ⟨0, 0, Nat.zero_le _, rfl, rfl⟩
  case round =>
    obtain ⟨k, q, hk, rfl, hw⟩ := hrel
    clear hW0
    have k0 : (0 : Int) ≤ (k : Int) := Int.natCast_nonneg _
    have hE : ∀ a, wr.cell? a = W0.cell? a := fun a => by rw [hw.out]; rfl
    obtain ⟨h1, h2, hn, hn', hX, hB⟩ := HH.out
    have x0 := (at_of hX (j := 0) (v := .slice a n c) rfl).1
    have x1 := (at_of hX (j := 1) (v := .slice a' n' c') rfl).1
    have x2 := (at_of hX (j := 2) (v := .int .i64 m) rfl).1
    rw [← hE] at x0 x1 x2
    by_cases hlt : k < n'
    · have k1 : (k : Int) < (n' : Int) := Int.ofNat_lt.2 hlt
      obtain ⟨b2, o2, rfl, y0, y1, y2, y3⟩ := h2 k (by rw [List.length_map, List.length_range]; exact hlt)
      simp only [List.getElem_map, List.getElem_range, mkE] at y0 y1 y2 y3
      rw [← hE] at y0 y1 y2 y3
      have hnq := fun W => ne_elem m false (k : Int) ⟨#[]⟩ W
      obtain ⟨kk, hkk⟩ : ∃ kk, kk = k + 1 := ⟨_, rfl⟩
      have hwk : Hid (wrap64 ((k : Int) + 1) = (kk : Int)) := by unfold Hid; rw [hkk]; exact wo_up k (by omega)
      have hlt' : Hid (k < n' ∧ kk = k + 1 ∧ kk ≤ n') := ⟨hlt, hkk, by omega⟩
      by_cases hln : k < n
      · have k2 : (k : Int) < (n : Int) := Int.ofNat_lt.2 hln
        obtain ⟨b1, o1, rfl, z0, z1, z2, z3⟩ := h1 k (by rw [List.length_map, List.length_range]; exact hln)
        simp only [List.getElem_map, List.getElem_range, mkE] at z0 z1 z2 z3
        rw [← hE] at z0 z1 z2 z3
        have hd : decide (k < n) = true := decide_eq_true hln
        clear h1 h2 hX hB hE HH hk hlt hkk hn hn'
        go_upto_region 4 with fail
        go_quiet (fail)
        have hwk' := hwk.out
        go_wp2_with fail
        rw [hwk']
        exact ⟨⟨kk, q + nq, hlt'.out.2.2, rfl, by unfold Hid; rw [hw.out, World.drewN_drewN]⟩, meas_o n' k kk hlt'.out.1 hlt'.out.2.1⟩
      · have k2 : ¬ (k : Int) < (n : Int) := by omega
        have hd : decide (k < n) = false := decide_eq_false hln
        clear h1 h2 hX hB hE HH hk hlt hkk hn hn'
        go_upto_region 4 with fail
        go_quiet (fail)
        have hwk' := hwk.out
        go_wp2_with fail
        rw [hwk']
        exact ⟨⟨kk, q + nq, hlt'.out.2.2, rfl, by unfold Hid; rw [hw.out, World.drewN_drewN]⟩, meas_o n' k kk hlt'.out.1 hlt'.out.2.1⟩
    · obtain rfl : k = n' := by omega
      have k1 : ¬ (k : Int) < (k : Int) := by omega
      have hwn : Hid (wrap64 ((n : Int) + 1) = (k : Int)) := by unfold Hid; rw [hn']; exact wo_up n (by omega)
      have hwn' := hwn.out
      have hB' : Hid (Below w.heap.size w wr) := by unfold Hid; rw [hw.out]; exact hB.trans ⟨rfl, rfl, rfl, Nat.le_refl _, fun _ _ => rfl⟩
      clear h1 h2 hX hB hE HH hk hlt hn hn' hwn
      go_wp2_with fail
      go_ret
      exact ⟨rfl, hB'.out⟩
end Go.Proofs.Ytgfonnjblbpogaa

namespace Go.Proofs.Ytgfonnjblbpogaa
open Go.RowKit
open BerMath (Hd HR num hAt wAt)
set_option linter.unusedVariables false

/-- The one element that a tree's bytes are. -/
theorem split_two {n : Nat} {D C T : Nat → Int} {M : Nat → Bool} {B : Nat → ByteArray} {σ : List Nat} {H : Nat → List UInt8} (hn : 0 < n) (hI : SpI n 0 D C T M B σ H) (hG : ∀ i, i < n → Good D C T M B i) (X : ByteArray) (hX : X = S (outB H B 0 n)) :
    ∃ x : Elm, spl (X ++ X) ((X ++ X).size + 1) 0 = .ok [x, x] := by
  obtain ⟨len, k, rest, e1, e2, e3, e4⟩ := spI_end hn hI
  obtain ⟨g1, g2, g3, g4, _⟩ := hG 0 hn
  have hl : X.data.toList = hdrL (C 0).toNat (M 0) (T 0).toNat len k ++ rest := by rw [hX, S_l, e1]
  have hXs : X.size = 2 + k + len := by rw [← size_l, hl, List.length_append, hdrL_len, e3]
  have hXX : (X ++ X).data.toList = X.data.toList ++ X.data.toList := by rw [app_l]
  have hs : (X ++ X).size = X.size + X.size := ByteArray.size_append
  have w0 : wAt (X ++ X).data.toList 0 (X ++ X).size = .ok ⟨(C 0).toNat, M 0, (T 0).toNat, len, 2 + k⟩ := by
    have hh : hAt (X ++ X).data.toList 0 (X ++ X).size = .ok ⟨(C 0).toNat, M 0, (T 0).toNat, len, 2 + k⟩ := by
      rw [hXX, hl, List.append_assoc]
      exact hAt_hdr _ _ _ _ _ _ _ (by omega) (by omega) e2 (by omega)
    unfold wAt
    rw [hh]
    dsimp only
    rw [if_neg (by omega)]
  have w1 : wAt (X ++ X).data.toList X.size (X ++ X).size = .ok ⟨(C 0).toNat, M 0, (T 0).toNat, len, 2 + k⟩ := by
    have hh : hAt (X ++ X).data.toList X.size (X ++ X).size = .ok ⟨(C 0).toNat, M 0, (T 0).toNat, len, 2 + k⟩ := by
      refine hAt_shift _ _ _ _ (by omega) ?_
      rw [hXX, show X.size = X.data.toList.length from (size_l X).symm, List.drop_left, hl]
      exact hAt_hdr _ _ _ _ _ _ _ (by omega) (by omega) e2 (by rw [← hl, size_l]; omega)
    unfold wAt
    rw [hh]
    dsimp only
    rw [if_neg (by omega)]
  have hx : elOf (X ++ X) ⟨(C 0).toNat, M 0, (T 0).toNat, len, 2 + k⟩ 0 = elOf (X ++ X) ⟨(C 0).toNat, M 0, (T 0).toNat, len, 2 + k⟩ X.size := by
    unfold elOf
    dsimp only
    congr 1
    have key : ∀ p, p = 0 ∨ p = X.size → ((X ++ X).extract (p + (2 + k)) (p + (2 + k) + len)) = S rest := fun p hp => by
      rw [← S_of ((X ++ X).extract (p + (2 + k)) (p + (2 + k) + len))]
      congr 1
      rw [extr_b, List.drop_take, show p + (2 + k) + len - (p + (2 + k)) = len from by omega, hXX]
      rcases hp with rfl | rfl
      · rw [Nat.zero_add, hl, List.append_assoc, show 2 + k = (hdrL (C 0).toNat (M 0) (T 0).toNat len k).length from (hdrL_len _ _ _ _ _).symm, List.drop_left, ← e3, List.take_left]
      · rw [← List.drop_drop, show X.size = X.data.toList.length from (size_l X).symm, List.drop_left, hl, show 2 + k = (hdrL (C 0).toNat (M 0) (T 0).toNat len k).length from (hdrL_len _ _ _ _ _).symm, List.drop_left, ← e3, List.take_length]
    rw [key 0 (Or.inl rfl), key X.size (Or.inr rfl)]
  refine ⟨elOf (X ++ X) ⟨(C 0).toNat, M 0, (T 0).toNat, len, 2 + k⟩ 0, ?_⟩
  obtain ⟨f, hf⟩ : ∃ f, (X ++ X).size = f + 2 := ⟨(X ++ X).size - 2, by omega⟩
  rw [show (X ++ X).size + 1 = (f + 2) + 1 from by omega, spl_ok _ _ _ _ (by omega) w0]
  dsimp only
  rw [show 0 + (2 + k) + len = X.size from by omega, show f + 2 = (f + 1) + 1 from rfl, spl_ok _ _ _ _ (by omega) w1]
  dsimp only
  rw [show X.size + (2 + k) + len = (X ++ X).size from by omega, spl_end _ _ _ (Nat.le_refl _), hx]
  rfl
/-- What Split gives, as a row that may be marked. -/
def emOf (e : Elm) : Em := ⟨(e.c : Int), e.m, (e.t : Int), e.s⟩
theorem ownG_of {w : World} {B : Nat} {v : Value} {l : List Elm} (h : OwnE w B v l) : OwnG w B v (l.map emOf) := by
  unfold OwnG
  rw [List.length_map]
  have e : gv (l.map emOf) = ev l := by
    unfold gv ev
    rw [List.flatMap_map]
    rfl
  rw [e]
  exact h
end Go.Proofs.Ytgfonnjblbpogaa

namespace Go.Proofs.Ytgfonnjblbpogaa
open Go.RowKit
set_option linter.unusedVariables false

theorem add_offG (b o j : Nat) : (⟨b, o, none⟩ : Addr).add j = ⟨b, o + j, none⟩ := by unfold Addr.add; split <;> simp_all
theorem gv_app (l k : List Em) : gv (l ++ k) = gv l ++ gv k := by simp [gv]
theorem gv_one (l : List Em) : ∀ u ∈ gv l, u.oneCell' = true := by
  intro u hu
  obtain ⟨x, _, hx⟩ := List.mem_flatMap.1 hu
  exact gV_one x u hx
/-- A row of nodes appended to a row of the call's own. -/
theorem appendG_run (w : World) (B : Nat) (v : Value) (l k : List Em) (a : Option Addr) (c : Nat) (hown : OwnG w B v l) (hk : GmRow w a k) (hB : B ≤ w.heap.size) (hsz : (l.length + k.length) * 40 ≤ 140737488355328) :
    ∃ v' w', (Builtin.append_ #[47, 47] 47 #[v, .slice a k.length c]).run Try.prog w = .ok v' w' ∧ OwnG w' B v' (l ++ k) ∧ Below B w w' ∧ ∀ g, g < w.heap.size → v.ownBlock ≠ some g → w'.heap[g]? = w.heap[g]? := by
  obtain ⟨i0, hi, hz0, hz1, hz2⟩ := info_parts info_em
  by_cases h0 : k.length = 0
  · have hk0 := List.eq_nil_of_length_eq_zero h0
    subst hk0
    refine ⟨v, w, ?_, by rw [List.append_nil]; exact hown, Below.refl _ _, fun _ _ _ => rfl⟩
    cases a with
    | none =>
      rcases hown.2 with ⟨rfl, hn⟩ | ⟨g, cap, cur, rfl, _, _, hc, _⟩
      · simp [Builtin.append_, run_underlying Try.underlying47, sizeOf, typeInfo, hi, Builtin.lenOf, Builtin.firstCells]
      · simp [Builtin.append_, run_underlying Try.underlying47, sizeOf, typeInfo, hi, Builtin.lenOf, Builtin.firstCells, hc, storeCells]
    | some d =>
      rcases hown.2 with ⟨rfl, hn⟩ | ⟨g, cap, cur, rfl, _, _, hc, _⟩
      · simp [Builtin.append_, run_underlying Try.underlying47, sizeOf, typeInfo, hi, Builtin.lenOf, Builtin.firstCells, loadCells, loadCellsFrom]
      · simp [Builtin.append_, run_underlying Try.underlying47, sizeOf, typeInfo, hi, Builtin.lenOf, Builtin.firstCells, loadCells, loadCellsFrom, hc, storeCells]
  · obtain ⟨b, off, rfl, _⟩ := hk 0 (by omega)
    have hnews : ∀ j u, (gv k)[j]? = some u → w.cell? ((⟨b, off, none⟩ : Addr).add j) = some u := by
      intro j u hj
      have hjn : j < k.length * 4 := by
        rcases Nat.lt_or_ge j (k.length * 4) with h' | h'
        · exact h'
        · rw [List.getElem?_eq_none (by rw [gv_len]; exact h')] at hj; cases hj
      obtain ⟨i, r, rfl, hr⟩ : ∃ i r, j = i * 4 + r ∧ r < 4 := ⟨j / 4, j % 4, by omega, Nat.mod_lt _ (by decide)⟩
      have hi' : i < k.length := by omega
      rw [gv_at k i hi' r hr] at hj
      obtain ⟨b', off', e, q0, q1, q2, q3⟩ := hk i hi'
      have e1 : b = b' := congrArg Addr.block (Option.some.inj e)
      have e2 : off = off' := congrArg Addr.off (Option.some.inj e)
      subst e1 e2
      rw [add_offG, ← hj]
      rcases r with _ | _ | _ | _ | r
      · exact q0
      · rw [← Nat.add_assoc]; exact q1
      · rw [← Nat.add_assoc]; exact q2
      · rw [← Nat.add_assoc]; exact q3
      · omega
    obtain ⟨g, cap, w', hr, h2, h3, _, _⟩ := run_append_lies (P := Try.prog) w 47 47 B 56 i0 _ 4 40 Try.underlying47 hi hz0 hz1 hz2 rfl (by decide) v l.length (gv l) hown ⟨b, off, none⟩ k.length c (gv k) (gv_len k) hnews (gv_one _) (by omega) (by unfold maxLen; omega) hsz hB w.heap.size rfl
    refine ⟨_, w', hr, ?_, (Below.refl _ _).grown h3 hB (fun j hj => (World.ownsRow.lt (show w.ownsRow B 56 4 v l.length (gv l) from hown) _ hj).1), fun g hg hne => h3.block g hg (fun e => hne e.symm)⟩
    unfold OwnG
    rw [gv_app, List.length_append]
    exact h2
set_option maxRecDepth 100000 in
set_option maxHeartbeats 2000000 in
theorem sameElems_any (l : List Em) (a b : Option Addr) (c d : Nat) (w : World) (hl : l.length ≤ 140737488355328) (h1 : GmRow w a l) (h2 : GmRow w b l) :
    Calls Try.prog 24 #[.slice a l.length c, .slice b l.length d] w fun r w' => r = .returned (.bool true) ∧ Below w.heap.size w w' := by
  have hl' : Hid (l.length ≤ 140737488355328) := hl
  clear hl
  go_enter Try.func24, Try.ntmps24
  go_wp2_with fail
  go_loopw [5] (fun iv wr => ∃ (k q : Nat), k ≤ l.length ∧ iv = .int .i64 (k : Int) ∧ Hid (wr = w.drewN q)) (fun iv _ => l.length - (intOf iv).toNat)
  case atStart => exact ⟨0, 0, Nat.zero_le _, rfl, rfl⟩
  case round =>
    obtain ⟨k, q, hk, rfl, hw⟩ := hrel
    have k0 : (0 : Int) ≤ (k : Int) := Int.natCast_nonneg _
    by_cases hlt : k < l.length
    · have k1 : (k : Int) < (l.length : Int) := Int.ofNat_lt.2 hlt
      obtain ⟨b1, o1, rfl, x0, x1, x2, x3⟩ := h1 k hlt
      obtain ⟨b2, o2, rfl, y0, y1, y2, y3⟩ := h2 k hlt
      have hE : ∀ a, wr.cell? a = w.cell? a := fun a => by rw [hw.out]; rfl
      rw [← hE] at x0 x1 x2 x3 y0 y1 y2 y3
      have hnq := fun W => ne_elem l[k].cls l[k].made l[k].tag l[k].body W
      have hkw : Hid (wrap64 ((k : Int) + 1) = (k : Int) + 1) := wr_up' k (by have := hl'.out; omega)
      have hlt' : Hid (k < l.length) := hlt
      generalize l[k] = X at *
      clear hE h1 h2 hlt hk
      go_wp2_with fail
      go_quiet (fail)
      go_wp2_with fail
      have hkw2 := hkw.out
      refine ⟨⟨k + 1, _, hlt'.out, congrArg (Value.int .i64) (by rw [hkw2]; omega), by unfold Hid; rw [hw.out, World.drewN_drewN]⟩, ?_⟩
      rw [hkw2]
      have := hlt'.out
      simp [intOf]
      omega
    · obtain rfl : k = l.length := by omega
      have k1 : ¬ (l.length : Int) < (l.length : Int) := by omega
      clear h1 h2
      go_wp2_with fail
      go_ret
      exact ⟨rfl, by rw [hw.out]; exact ⟨rfl, rfl, rfl, Nat.le_refl _, fun _ _ => rfl⟩⟩

theorem ownG_empty (w : World) (B : Nat) (hB : B ≤ w.heap.size) : OwnG (w.alloc (.cells #[] 56)) B (.slice (some ⟨w.heap.size, 0, none⟩) 0 0) [] :=
  ⟨rfl, Or.inr ⟨w.heap.size, 0, #[], rfl, hB, heap_alloc_last w _, Nat.le_refl _, by unfold maxLen; omega, rfl, rfl⟩⟩
/-- A list of marks of the call's own: three cells each. -/
abbrev K3 := Value × Value × Int
def k3 (x : K3) : List Value := [x.1, x.2.1, .int .i64 x.2.2]
def kvs (l : List K3) : List Value := l.flatMap k3
theorem kvs_app (l k : List K3) : kvs (l ++ k) = kvs l ++ kvs k := by simp [kvs]
theorem kvs_len (l : List K3) : (kvs l).length = l.length * 3 := by
  induction l with
  | nil => rfl
  | cons x l ih => show (k3 x ++ kvs l).length = _; rw [List.length_append, ih, List.length_cons]; simp [k3]; omega
theorem kvs_at (l : List K3) (i : Nat) (hi : i < l.length) (j : Nat) (hj : j < 3) : (kvs l)[i * 3 + j]? = (k3 l[i])[j]? := by
  induction l generalizing i with
  | nil => simp at hi
  | cons x l ih =>
    cases i with
    | zero =>
      show (k3 x ++ kvs l)[0 * 3 + j]? = _
      rw [List.getElem?_append_left (by simp [k3]; omega)]
      simp
    | succ i =>
      show (k3 x ++ kvs l)[(i + 1) * 3 + j]? = _
      have e : (i + 1) * 3 + j = (k3 x).length + (i * 3 + j) := by simp [k3]; omega
      rw [e, List.getElem?_append_right (by omega), Nat.add_sub_cancel_left, ih i (by simpa using hi)]
      rfl
/-- Both values are slices. -/
def Sl (l : List K3) : Prop := ∀ x ∈ l, (∃ a n c, x.1 = .slice a n c) ∧ (∃ a n c, x.2.1 = .slice a n c)
theorem kvs_one {l : List K3} (h : Sl l) : ∀ u ∈ kvs l, u.oneCell' = true := by
  intro u hu
  obtain ⟨x, hx, hu⟩ := List.mem_flatMap.1 hu
  obtain ⟨⟨a, n, c, e1⟩, ⟨a', n', c', e2⟩⟩ := h x hx
  simp [k3] at hu
  rcases hu with rfl | rfl | rfl
  · rw [e1]; rfl
  · rw [e2]; rfl
  · rfl
def OwnK (t : TypeId) (W : World) (B : Nat) (v : Value) (l : List K3) : Prop := W.ownsRow B t 3 v l.length (kvs l)
theorem ownK_nil (t : TypeId) (W : World) (B : Nat) : OwnK t W B (.slice none 0 0) [] := ⟨rfl, Or.inl ⟨rfl, rfl⟩⟩
theorem ownK_below {t : TypeId} {w w' : World} {B : Nat} {v : Value} {l : List K3} (h : OwnK t w B v l) (hb : Below w.heap.size w w') : OwnK t w' B v l := by
  rcases h with ⟨h1, ⟨rfl, h2⟩ | ⟨g, cap, cur, rfl, h3, h4, h5⟩⟩
  · exact ⟨h1, Or.inl ⟨rfl, h2⟩⟩
  · exact ⟨h1, Or.inr ⟨g, cap, cur, rfl, h3, by rw [hb.block g (Array.getElem?_eq_some_iff.1 h4).1]; exact h4, h5⟩⟩
theorem info_kn : (Try.prog.info? 66).map (fun i => (i.zero, i.size, i.bytes)) = some (some (.agg #[.slice none 0 0, .slice none 0 0, .int .i64 0]), 3, 56) := by kernel_rfl
theorem info_ke : (Try.prog.info? 62).map (fun i => (i.zero, i.size, i.bytes)) = some (some (.agg #[.slice none 0 0, .slice none 0 0, .int .i64 0]), 3, 56) := by kernel_rfl
theorem appendKN (w : World) (B : Nat) (v : Value) (l k : List K3) (g : Nat) (hown : OwnK 66 w B v l) (hg : w.heap[g]? = some (.cells (kvs k).toArray 66 (0, 0))) (hk : Sl k) (h0 : 0 < k.length) (hB : B ≤ w.heap.size) (hl : l.length + k.length ≤ 4294967296) :
    ∃ v' w', (Builtin.append_ #[59, 59] 59 #[v, .slice (some ⟨g, 0, none⟩) k.length k.length]).run Try.prog w = .ok v' w' ∧ OwnK 66 w' B v' (l ++ k) ∧ Below B w w' ∧ w.grownBy w' v.ownBlock ∧ ∀ q, v'.ownBlock = some q → v.ownBlock = some q ∨ w.heap.size ≤ q := by
  obtain ⟨i0, hi, hz0, hz1, hz2⟩ := info_parts info_kn
  obtain ⟨g', cap, w', hr, h2, h3, h5, _⟩ := run_append_lies (P := Try.prog) w 59 59 B 66 i0 _ 3 56 Try.underlying59 hi hz0 hz1 hz2 rfl (by decide) v l.length (kvs l) hown ⟨g, 0, none⟩ k.length k.length (kvs k) (kvs_len k) (by simpa using World.news_of_block hg) (kvs_one hk) h0 (by unfold maxLen; omega) (by omega) hB w.heap.size rfl
  refine ⟨_, w', hr, ?_, (Below.refl _ _).grown h3 hB (fun j hj => (World.ownsRow.lt (show w.ownsRow B 66 3 v l.length (kvs l) from hown) _ hj).1), h3, fun q hq => by
    have e : g' = q := by simpa [Value.ownBlock] using hq
    subst e
    exact h5.imp id (fun e => by omega)⟩
  unfold OwnK
  rw [kvs_app, List.length_append]
  exact h2
theorem appendKE (w : World) (B : Nat) (v : Value) (l k : List K3) (g : Nat) (hown : OwnK 62 w B v l) (hg : w.heap[g]? = some (.cells (kvs k).toArray 62 (0, 0))) (hk : Sl k) (h0 : 0 < k.length) (hB : B ≤ w.heap.size) (hl : l.length + k.length ≤ 4294967296) :
    ∃ v' w', (Builtin.append_ #[60, 60] 60 #[v, .slice (some ⟨g, 0, none⟩) k.length k.length]).run Try.prog w = .ok v' w' ∧ OwnK 62 w' B v' (l ++ k) ∧ Below B w w' ∧ w.grownBy w' v.ownBlock ∧ ∀ q, v'.ownBlock = some q → v.ownBlock = some q ∨ w.heap.size ≤ q := by
  obtain ⟨i0, hi, hz0, hz1, hz2⟩ := info_parts info_ke
  obtain ⟨g', cap, w', hr, h2, h3, h5, _⟩ := run_append_lies (P := Try.prog) w 60 60 B 62 i0 _ 3 56 Try.underlying60 hi hz0 hz1 hz2 rfl (by decide) v l.length (kvs l) hown ⟨g, 0, none⟩ k.length k.length (kvs k) (kvs_len k) (by simpa using World.news_of_block hg) (kvs_one hk) h0 (by unfold maxLen; omega) (by omega) hB w.heap.size rfl
  refine ⟨_, w', hr, ?_, (Below.refl _ _).grown h3 hB (fun j hj => (World.ownsRow.lt (show w.ownsRow B 62 3 v l.length (kvs l) from hown) _ hj).1), h3, fun q hq => by
    have e : g' = q := by simpa [Value.ownBlock] using hq
    subst e
    exact h5.imp id (fun e => by omega)⟩
  unfold OwnK
  rw [kvs_app, List.length_append]
  exact h2
/-- A kept list's cells. -/
theorem ownK_any {t : TypeId} {w : World} {B : Nat} {v : Value} {l : List K3} (h : OwnK t w B v l) : ∃ a c, v = .slice a l.length c ∧ ∀ i (hi : i < l.length), ∃ b, a = some ⟨b, 0, none⟩ ∧ w.cell? ⟨b, i * 3, none⟩ = some l[i].1 ∧ w.cell? ⟨b, i * 3 + 1, none⟩ = some l[i].2.1 ∧ w.cell? ⟨b, i * 3 + 2, none⟩ = some (.int .i64 l[i].2.2) := by
  have h0 := h
  rcases h.2 with ⟨rfl, hn⟩ | ⟨g, cap, cur, rfl, _⟩
  · have hl : l = [] := List.eq_nil_of_length_eq_zero hn
    subst hl
    exact ⟨none, 0, rfl, fun i hi => by simp at hi⟩
  · have key : ∀ i (hi : i < l.length) j, j < 3 → w.cell? ⟨g, i * 3 + j, none⟩ = (k3 l[i])[j]? := fun i hi j hj => by
      have hc := World.ownsRow.cellAt (show w.ownsRow B t 3 _ l.length (kvs l) from h0) (i * 3 + j) (by omega)
      rw [hc]
      exact kvs_at l i hi j hj
    exact ⟨_, _, rfl, fun i hi => ⟨g, rfl, key i hi 0 (by omega), key i hi 1 (by omega), key i hi 2 (by omega)⟩⟩
end Go.Proofs.Ytgfonnjblbpogaa

namespace Go.Proofs.Ytgfonnjblbpogaa
open Go.RowKit
set_option linter.unusedVariables false

theorem Ch.cell {ks : Nat → Prop} {W W' : World} (h : Ch ks W W') {p : Addr} (hp : p.block < W.heap.size) (hk : ¬ ks p.block) : W'.cell? p = W.cell? p := World.cell?_of_block (w := W) (h.2.2.2.2 p.block hp hk)
theorem NdRow.ch {ks : Nat → Prop} {w w' : World} {a : Option Addr} {l : List Nd} (h : NdRow w a l) (hc : Ch ks w w') (hk : ∀ b off, a = some ⟨b, off, none⟩ → ¬ ks b) : NdRow w' a l := fun i hi => by
  obtain ⟨b, off, e, h0, h1, h2, h3, h4⟩ := h i hi
  have hlt : b < w.heap.size := World.block_lt_of_cell? w _ h0
  have hn := hk b off e
  exact ⟨b, off, e, (hc.cell hlt hn).trans h0, (hc.cell hlt hn).trans h1, (hc.cell hlt hn).trans h2, (hc.cell hlt hn).trans h3, (hc.cell hlt hn).trans h4⟩
theorem GmRow.ch {ks : Nat → Prop} {w w' : World} {a : Option Addr} {l : List Em} (h : GmRow w a l) (hc : Ch ks w w') (hk : ∀ b off, a = some ⟨b, off, none⟩ → ¬ ks b) : GmRow w' a l := fun i hi => by
  obtain ⟨b, off, e, h0, h1, h2, h3⟩ := h i hi
  have hlt : b < w.heap.size := World.block_lt_of_cell? w _ h0
  have hn := hk b off e
  exact ⟨b, off, e, (hc.cell hlt hn).trans h0, (hc.cell hlt hn).trans h1, (hc.cell hlt hn).trans h2, (hc.cell hlt hn).trans h3⟩
/-- No block of the two. -/
def Off (x : K3) (g : Nat) : Prop := x.1.ownBlock ≠ some g ∧ x.2.1.ownBlock ≠ some g
def Ltw (W : World) (v : Value) : Prop := ∀ g, v.ownBlock = some g → g < W.heap.size
theorem Ltw.mono {W W' : World} {v : Value} (h : Ltw W v) (hs : W.heap.size ≤ W'.heap.size) : Ltw W' v := fun g hg => Nat.lt_of_lt_of_le (h g hg) hs
def EN (W : World) (x : K3) : Prop := (∃ n, n ≤ 4294967295 ∧ Mkd W x.1 x.2.1 x.2.2 n) ∧ Ltw W x.1 ∧ Ltw W x.2.1
def EE (W : World) (x : K3) : Prop := (∃ n, n ≤ 4294967295 ∧ Mke W x.1 x.2.1 x.2.2 n) ∧ Ltw W x.1 ∧ Ltw W x.2.1
theorem EN.ch {ks : Nat → Prop} {W W' : World} {x : K3} (h : EN W x) (hc : Ch ks W W') (hk : ∀ g, ks g → Off x g) : EN W' x := by
  obtain ⟨⟨n, hn, ⟨a, c, e, r⟩, ⟨a', c', e', r'⟩⟩, l1, l2⟩ := h
  refine ⟨⟨n, hn, ⟨a, c, e, r.ch hc fun b off q hb => (hk b hb).1 (by rw [e, q]; rfl)⟩, ⟨a', c', e', r'.ch hc fun b off q hb => (hk b hb).2 (by rw [e', q]; rfl)⟩⟩, l1.mono hc.2.2.2.1, l2.mono hc.2.2.2.1⟩
theorem EE.ch {ks : Nat → Prop} {W W' : World} {x : K3} (h : EE W x) (hc : Ch ks W W') (hk : ∀ g, ks g → Off x g) : EE W' x := by
  obtain ⟨⟨n, hn, ⟨a, c, e, r⟩, ⟨a', c', e', r'⟩⟩, l1, l2⟩ := h
  refine ⟨⟨n, hn, ⟨a, c, e, r.ch hc fun b off q hb => (hk b hb).1 (by rw [e, q]; rfl)⟩, ⟨a', c', e', r'.ch hc fun b off q hb => (hk b hb).2 (by rw [e', q]; rfl)⟩⟩, l1.mono hc.2.2.2.1, l2.mono hc.2.2.2.1⟩
theorem EN.below {W W' : World} {x : K3} (h : EN W x) (hb : Below W.heap.size W W') : EN W' x := h.ch (ks := fun _ => False) (Ch.of_below hb) (fun _ h => h.elim)
theorem EE.below {W W' : World} {x : K3} (h : EE W x) (hb : Below W.heap.size W W') : EE W' x := h.ch (ks := fun _ => False) (Ch.of_below hb) (fun _ h => h.elim)
theorem EN.sl {W : World} {x : K3} (h : EN W x) : (∃ a n c, x.1 = .slice a n c) ∧ (∃ a n c, x.2.1 = .slice a n c) := by
  obtain ⟨⟨n, hn, ⟨a, c, e, r⟩, ⟨a', c', e', r'⟩⟩, _⟩ := h
  exact ⟨⟨a, n, c, e⟩, ⟨a', n + 1, c', e'⟩⟩
theorem EE.sl {W : World} {x : K3} (h : EE W x) : (∃ a n c, x.1 = .slice a n c) ∧ (∃ a n c, x.2.1 = .slice a n c) := by
  obtain ⟨⟨n, hn, ⟨a, c, e, r⟩, ⟨a', c', e', r'⟩⟩, _⟩ := h
  exact ⟨⟨a, n, c, e⟩, ⟨a', n + 1, c', e'⟩⟩
/-- A list's block is none of the entry's. -/
def Apt (x : K3) (k : Value) : Prop := ∀ g, k.ownBlock = some g → Off x g
/-- The kept ones: both lists are the call's own, every entry keeps its marks. -/
def KI (W : World) (B : Nat) (kn ke : Value) (LN LE : List K3) : Prop :=
  OwnK 66 W B kn LN ∧ OwnK 62 W B ke LE ∧ (∀ x ∈ LN, EN W x ∧ Apt x kn ∧ Apt x ke) ∧ (∀ x ∈ LE, EE W x ∧ Apt x kn ∧ Apt x ke)
theorem KI.below {W W' : World} {B : Nat} {kn ke : Value} {LN LE : List K3} (h : KI W B kn ke LN LE) (hb : Below W.heap.size W W') : KI W' B kn ke LN LE :=
  ⟨ownK_below h.1 hb, ownK_below h.2.1 hb, fun x hx => ⟨(h.2.2.1 x hx).1.below hb, (h.2.2.1 x hx).2⟩, fun x hx => ⟨(h.2.2.2 x hx).1.below hb, (h.2.2.2 x hx).2⟩⟩
theorem ownK_lt {t : TypeId} {W : World} {B : Nat} {v : Value} {l : List K3} (h : OwnK t W B v l) (g : Nat) (hg : v.ownBlock = some g) : B ≤ g ∧ g < W.heap.size := World.ownsRow.lt (show W.ownsRow B t 3 v l.length (kvs l) from h) g hg
theorem ownK_ch {t : TypeId} {ks : Nat → Prop} {w w' : World} {B : Nat} {v : Value} {l : List K3} (h : OwnK t w B v l) (hc : Ch ks w w') (hk : ∀ g, v.ownBlock = some g → ¬ ks g) : OwnK t w' B v l := by
  rcases h with ⟨h1, ⟨rfl, h2⟩ | ⟨g, cap, cur, rfl, h3, h4, h5⟩⟩
  · exact ⟨h1, Or.inl ⟨rfl, h2⟩⟩
  · exact ⟨h1, Or.inr ⟨g, cap, cur, rfl, h3, by rw [hc.2.2.2.2 g (Array.getElem?_eq_some_iff.1 h4).1 (hk g rfl)]; exact h4, h5⟩⟩
theorem ownK_apart {t t' : TypeId} (ht : t ≠ t') {w : World} {B B' : Nat} {v v' : Value} {l l' : List K3} (h : OwnK t w B v l) (h' : OwnK t' w B' v' l') (g : Nat) (hg : v.ownBlock = some g) : v'.ownBlock ≠ some g := by
  intro hg'
  rcases h with ⟨_, ⟨rfl, _⟩ | ⟨g1, c1, u1, rfl, _, e1, _⟩⟩
  · simp [Value.ownBlock] at hg
  · rcases h' with ⟨_, ⟨rfl, _⟩ | ⟨g2, c2, u2, rfl, _, e2, _⟩⟩
    · simp [Value.ownBlock] at hg'
    · simp [Value.ownBlock] at hg hg'
      subst hg
      subst hg'
      rw [e1] at e2
      injection e2 with e2
      injection e2 with _ e2
      exact ht e2
theorem tN_ne_tE : 66 ≠ 62 := by decide
/-- Behind an append to the one list: what an entry must be told. -/
theorem apt_new {W : World} {x : K3} {k k' : Value} (h : Apt x k) (h1 : Ltw W x.1) (h2 : Ltw W x.2.1) (hk : ∀ q, k'.ownBlock = some q → k.ownBlock = some q ∨ W.heap.size ≤ q) : Apt x k' := fun g hg => by
  rcases hk g hg with q | q
  · exact h g q
  · exact ⟨fun e => by have := h1 g e; omega, fun e => by have := h2 g e; omega⟩
theorem KI.addN {W : World} {B : Nat} {kn ke : Value} {LN LE : List K3} (h : KI W B kn ke LN LE) (k : List K3) (g : Nat) (hg : W.heap[g]? = some (.cells (kvs k).toArray 66 (0, 0))) (hk : ∀ x ∈ k, EN W x ∧ Apt x kn ∧ Apt x ke) (h0 : 0 < k.length) (hB : B ≤ W.heap.size) (hl : LN.length + k.length ≤ 4294967296) :
    ∃ kn' W', (Builtin.append_ #[59, 59] 59 #[kn, .slice (some ⟨g, 0, none⟩) k.length k.length]).run Try.prog W = .ok kn' W' ∧ KI W' B kn' ke (LN ++ k) LE ∧ Below B W W' ∧ Ch (fun q => kn.ownBlock = some q) W W' ∧ (∀ x, EE W x → Apt x kn → EE W' x ∧ Apt x kn') ∧ ∃ a c, kn' = .slice a (LN.length + k.length) c := by
  obtain ⟨v', w', hr, h2, h3, h4, h5⟩ := appendKN W B kn LN k g h.1 hg (fun x hx => (hk x hx).1.sl) h0 hB hl
  have hc : Ch (fun q => kn.ownBlock = some q) W w' := Ch.of_grown h4 (fun r hr => hr)
  refine ⟨v', w', hr, ⟨h2, ownK_ch h.2.1 hc (fun q hq hk => ownK_apart tN_ne_tE h.1 h.2.1 q hk hq), ?_, ?_⟩, h3, hc, fun x hx ha => ⟨hx.ch hc ha, apt_new ha hx.2.1 hx.2.2 h5⟩, ?_⟩
  · intro x hx
    have hx' : EN W x ∧ Apt x kn ∧ Apt x ke := by
      rcases List.mem_append.1 hx with q | q
      · exact h.2.2.1 x q
      · exact hk x q
    exact ⟨hx'.1.ch hc hx'.2.1, apt_new hx'.2.1 hx'.1.2.1 hx'.1.2.2 h5, hx'.2.2⟩
  · intro x hx
    have hx' := h.2.2.2 x hx
    exact ⟨hx'.1.ch hc hx'.2.1, apt_new hx'.2.1 hx'.1.2.1 hx'.1.2.2 h5, hx'.2.2⟩
  · obtain ⟨a, c, e, _⟩ := ownK_any h2
    rw [List.length_append] at e
    exact ⟨a, c, e⟩
theorem KI.addE {W : World} {B : Nat} {kn ke : Value} {LN LE : List K3} (h : KI W B kn ke LN LE) (k : List K3) (g : Nat) (hg : W.heap[g]? = some (.cells (kvs k).toArray 62 (0, 0))) (hk : ∀ x ∈ k, EE W x ∧ Apt x kn ∧ Apt x ke) (h0 : 0 < k.length) (hB : B ≤ W.heap.size) (hl : LE.length + k.length ≤ 4294967296) :
    ∃ ke' W', (Builtin.append_ #[60, 60] 60 #[ke, .slice (some ⟨g, 0, none⟩) k.length k.length]).run Try.prog W = .ok ke' W' ∧ KI W' B kn ke' LN (LE ++ k) ∧ Below B W W' ∧ Ch (fun q => ke.ownBlock = some q) W W' ∧ ∃ a c, ke' = .slice a (LE.length + k.length) c := by
  obtain ⟨v', w', hr, h2, h3, h4, h5⟩ := appendKE W B ke LE k g h.2.1 hg (fun x hx => (hk x hx).1.sl) h0 hB hl
  have hc : Ch (fun q => ke.ownBlock = some q) W w' := Ch.of_grown h4 (fun r hr => hr)
  refine ⟨v', w', hr, ⟨ownK_ch h.1 hc (fun q hq hk => ownK_apart tN_ne_tE h.1 h.2.1 q hq hk), h2, ?_, ?_⟩, h3, hc, ?_⟩
  · intro x hx
    have hx' := h.2.2.1 x hx
    exact ⟨hx'.1.ch hc hx'.2.2, hx'.2.1, apt_new hx'.2.2 hx'.1.2.1 hx'.1.2.2 h5⟩
  · intro x hx
    have hx' : EE W x ∧ Apt x kn ∧ Apt x ke := by
      rcases List.mem_append.1 hx with q | q
      · exact h.2.2.2 x q
      · exact hk x q
    exact ⟨hx'.1.ch hc hx'.2.2, hx'.2.1, apt_new hx'.2.2 hx'.1.2.1 hx'.1.2.2 h5⟩
  · obtain ⟨a, c, e, _⟩ := ownK_any h2
    rw [List.length_append] at e
    exact ⟨a, c, e⟩
end Go.Proofs.Ytgfonnjblbpogaa

namespace Go.Proofs.Ytgfonnjblbpogaa
open Go.RowKit
set_option linter.unusedVariables false

/-- The three nodes that stand in. -/
def D3 : Nat → Int | 0 => 1 | _ => 2
def C3 : Nat → Int := fun _ => 0
def T3 : Nat → Int | 0 => 16 | 1 => 4 | _ => 2
def M3 : Nat → Bool | 0 => true | _ => false
def B3 : Nat → ByteArray | 0 => ⟨#[]⟩ | 1 => ⟨#[97]⟩ | _ => ⟨#[5]⟩
abbrev c3 : Array Value := #[.int .i64 1, .int .i64 0, .bool true, .int .i64 16, .string ⟨#[]⟩, .int .i64 2, .int .i64 0, .bool false, .int .i64 4, .string ⟨#[97]⟩, .int .i64 2, .int .i64 0, .bool false, .int .i64 2, .string ⟨#[5]⟩]
theorem isN3 {W : World} {g : Nat} (h : Box W g 39 c3) : IsNodes W (some ⟨g, 0, none⟩) 3 D3 C3 T3 M3 B3 := fun i hi => by
  have k : ∀ j v, c3[j]? = some v → W.cell? ⟨g, j, none⟩ = some v := fun j v hj => (at_of h hj).1
  match i, hi with
  | 0, _ => exact ⟨g, 0, rfl, k 0 _ rfl, k 1 _ rfl, k 2 _ rfl, k 3 _ rfl, k 4 _ rfl⟩
  | 1, _ => exact ⟨g, 0, rfl, k 5 _ rfl, k 6 _ rfl, k 7 _ rfl, k 8 _ rfl, k 9 _ rfl⟩
  | 2, _ => exact ⟨g, 0, rfl, k 10 _ rfl, k 11 _ rfl, k 12 _ rfl, k 13 _ rfl, k 14 _ rfl⟩
theorem good3 : ∀ i, i < 3 → Good D3 C3 T3 M3 B3 i := fun i hi => by
  match i, hi with
  | 0, _ => refine ⟨by decide, by decide, by decide, by decide, by decide, by decide, fun _ => by kernel_rfl, fun _ => rfl, fun j hj => by omega⟩
  | 1, _ =>
    refine ⟨by decide, by decide, by decide, by decide, by decide, by decide, fun h => absurd h (by decide), fun h => by omega, fun j hj => ?_⟩
    obtain rfl : j = 0 := by omega
    exact ⟨by decide, by decide, fun _ => rfl⟩
  | 2, _ =>
    refine ⟨by decide, by decide, by decide, by decide, by decide, by decide, fun h => absurd h (by decide), fun h => by omega, fun j hj => ?_⟩
    obtain rfl : j = 1 := by omega
    exact ⟨by decide, by decide, fun h => absurd h (by decide)⟩
theorem bsum3 : bsum B3 3 ≤ 67108864 := by decide
/-- The nodes that the law goes on with. -/
def NdIn (w : World) (nv : Value) (wx : World) : Prop := ∃ (a : Option Addr) (n c : Nat) (D C T : Nat → Int) (M : Nat → Bool) (B : Nat → ByteArray), nv = .slice a n c ∧ IsNodes wx a n D C T M B ∧ 0 < n ∧ (∀ i, i < n → Good D C T M B i) ∧ bsum B n ≤ 67108864 ∧ Below w.heap.size w wx
/-- What Tree makes of a text, and what Split makes of it; nothing where they refuse it. -/
def tl (s : ByteArray) : List Nd := match treeR s with | .ok xs => xs.map (ndOf s) | .error _ => []
def sl (s : ByteArray) : List Em := match spl s (s.size + 1) 0 with | .ok l => l.map emOf | .error _ => []
theorem treeT {s : ByteArray} {B : Nat} {r : Ending} {w' : World} (h : treeQ s B r w') : ∃ v c q, r = .returned (.tuple #[v, .int .i64 c, .int .i64 q]) ∧ OwnN w' B v (tl s) := by
  rcases h with ⟨xs, v, h1, rfl, h2⟩ | ⟨f, h1, rfl⟩
  · exact ⟨v, _, _, rfl, by unfold tl; rw [h1]; exact h2⟩
  · exact ⟨_, _, _, rfl, by unfold tl; rw [h1]; exact ⟨rfl, Or.inl ⟨rfl, rfl⟩⟩⟩
theorem splitT {s : ByteArray} {B : Nat} {r : Ending} {w' : World} (h : splitQ s B r w') : ∃ v c q, r = .returned (.tuple #[v, .int .i64 c, .int .i64 q]) ∧ OwnG w' B v (sl s) := by
  rcases h with ⟨l, v, h1, rfl, h2⟩ | ⟨c, q, h1, rfl⟩
  · exact ⟨v, _, _, rfl, by unfold sl; rw [h1]; exact ownG_of h2⟩
  · exact ⟨_, _, _, rfl, by unfold sl; rw [h1]; exact ⟨rfl, Or.inl ⟨rfl, rfl⟩⟩⟩
theorem splo_len (s : ByteArray) (f p : Nat) (l : List Elm) (h : spl s f p = .ok l) : l.length ≤ f := by
  induction f generalizing p l with
  | zero => injection h with h; subst h; exact Nat.le_refl _
  | succ f ih =>
    by_cases hq : s.size ≤ p
    · rw [spl_end s f p hq] at h; injection h with h; subst h; exact Nat.zero_le _
    · cases hw : BerMath.wAt s.data.toList p s.size with
      | ok x =>
        rw [spl_ok s f p x hq hw] at h
        cases hr : spl s f (p + x.size + x.len) with
        | ok k =>
          rw [hr] at h
          injection h with h
          subst h
          have := ih _ _ hr
          simp
          omega
        | error y => rw [hr] at h; cases h
      | error o =>
        cases o with
        | some cq =>
          obtain ⟨a, b⟩ := cq
          rw [spl_er s f p a b hq hw] at h
          cases h
        | none => rw [spl_miss s f p hq hw] at h; cases h
theorem tl_len (s : ByteArray) : (tl s).length ≤ 2147483650 := by
  unfold tl treeR
  cases h : (tr s).2 with
  | some f => exact Nat.zero_le _
  | none =>
    by_cases hq : lastE (tr s).1 < s.size
    · simp only [hq, if_true]; exact Nat.zero_le _
    · simp only [hq, if_false, List.length_map]; exact (tr_len s).1
theorem sl_len (s : ByteArray) : (sl s).length ≤ s.size + 1 := by
  unfold sl
  cases h : spl s (s.size + 1) 0 with
  | ok l => simp only [List.length_map]; exact splo_len s _ 0 l h
  | error e => exact Nat.zero_le _
end Go.Proofs.Ytgfonnjblbpogaa

namespace Go.Proofs.Ytgfonnjblbpogaa
open Go.RowKit
set_option linter.unusedVariables false

theorem Mkd.ltMore {W : World} {v more : Value} {m : Int} {n : Nat} (h : Mkd W v more m n) : Ltw W more := by
  obtain ⟨_, a, c, rfl, r⟩ := h
  obtain ⟨b, off, rfl, h0, _⟩ := r 0 (by simp)
  intro g hg
  have : b = g := by simpa [Value.ownBlock] using hg
  subst this
  exact World.block_lt_of_cell? W _ h0
theorem Mke.ltMore {W : World} {v more : Value} {m : Int} {n : Nat} (h : Mke W v more m n) : Ltw W more := by
  obtain ⟨_, a, c, rfl, r⟩ := h
  obtain ⟨b, off, rfl, h0, _⟩ := r 0 (by simp)
  intro g hg
  have : b = g := by simpa [Value.ownBlock] using hg
  subst this
  exact World.block_lt_of_cell? W _ h0
theorem owns_ch {t : TypeId} {ks : Nat → Prop} {w w' : World} {B sz n : Nat} {v : Value} {xs : List Value} (h : w.ownsRow B t sz v n xs) (hc : Ch ks w w') (hk : ∀ g, v.ownBlock = some g → ¬ ks g) : w'.ownsRow B t sz v n xs := by
  rcases h with ⟨h1, ⟨rfl, h2⟩ | ⟨g, cap, cur, rfl, h3, h4, h5⟩⟩
  · exact ⟨h1, Or.inl ⟨rfl, h2⟩⟩
  · exact ⟨h1, Or.inr ⟨g, cap, cur, rfl, h3, by rw [hc.2.2.2.2 g (Array.getElem?_eq_some_iff.1 h4).1 (hk g rfl)]; exact h4, h5⟩⟩
/-- Where a value's block lies, and where an entry's two lie. -/
def Rv (v : Value) (lo hi : Nat) : Prop := ∀ g, v.ownBlock = some g → lo ≤ g ∧ g < hi
def Rng (x : K3) (lo hi S : Nat) : Prop := ∀ g, (x.1.ownBlock = some g → lo ≤ g ∧ g < hi) ∧ (x.2.1.ownBlock = some g → (lo ≤ g ∧ g < hi) ∨ S ≤ g)
theorem rng_off {x : K3} {lo hi S lo' hi' g : Nat} (h : Rng x lo hi S) (hg : lo' ≤ g ∧ g < hi') (hd : hi ≤ lo' ∨ hi' ≤ lo) (hS : hi' ≤ S) : Off x g :=
  ⟨fun e => by have := (h g).1 e; omega, fun e => by rcases (h g).2 e with q | q <;> omega⟩
theorem Box.ch {ks : Nat → Prop} {W W' : World} {g : Nat} {t : TypeId} {cs : Array Value} (h : Box W g t cs) (hc : Ch ks W W') (hk : ¬ ks g) : Box W' g t cs := h.of (hc.2.2.2.2 g h.lt hk)
/-- Behind a mark: what else there is stays. -/
theorem en_mark {v : Value} {W W' : World} {x : K3} {lo hi S lo' hi' : Nat} (h : EN W x) (hr : Rng x lo hi S) (hc : Ch (fun k => v.ownBlock = some k) W W') (hv : Rv v lo' hi') (hd : hi ≤ lo' ∨ hi' ≤ lo) (hS : hi' ≤ S) : EN W' x := h.ch hc fun g hg => rng_off hr (hv g hg) hd hS
theorem ee_mark {v : Value} {W W' : World} {x : K3} {lo hi S lo' hi' : Nat} (h : EE W x) (hr : Rng x lo hi S) (hc : Ch (fun k => v.ownBlock = some k) W W') (hv : Rv v lo' hi') (hd : hi ≤ lo' ∨ hi' ≤ lo) (hS : hi' ≤ S) : EE W' x := h.ch hc fun g hg => rng_off hr (hv g hg) hd hS
theorem box_mark {v : Value} {W W' : World} {g : Nat} {t : TypeId} {cs : Array Value} {lo' hi' S : Nat} (h : Box W g t cs) (hc : Ch (fun k => v.ownBlock = some k) W W') (hv : Rv v lo' hi') (hg : S ≤ g) (hS : hi' ≤ S) : Box W' g t cs := h.ch hc fun e => by have := hv g e; omega
theorem owns_mark {v u : Value} {t : TypeId} {W W' : World} {B sz n : Nat} {xs : List Value} {lo hi lo' hi' : Nat} (h : W.ownsRow B t sz u n xs) (hu : Rv u lo hi) (hc : Ch (fun k => v.ownBlock = some k) W W') (hv : Rv v lo' hi') (hd : hi ≤ lo' ∨ hi' ≤ lo) : W'.ownsRow B t sz u n xs := owns_ch h hc fun g h1 h2 => by have := hu g h1; have := hv g h2; omega
theorem rng_mark {v more : Value} {m : Int} {lo hi S : Nat} (hv : Rv v lo hi) (hm : ∀ g, more.ownBlock = some g → v.ownBlock = some g ∨ S ≤ g) : Rng (v, more, m) lo hi S := fun g => ⟨fun e => hv g e, fun e => (hm g e).imp (hv g) id⟩
theorem rng_apt {x : K3} {k : Value} {lo hi S : Nat} (h : Rng x lo hi S) (hk : ∀ g, k.ownBlock = some g → g < lo) (hS : lo ≤ S) : Apt x k := fun g hg => ⟨fun e => by have := (h g).1 e; have := hk g hg; omega, fun e => by have := hk g hg; rcases (h g).2 e with q | q <;> omega⟩
theorem rng_mono {x : K3} {lo hi S S' : Nat} (h : Rng x lo hi S) (hS : S' ≤ S) : Rng x lo hi S' := fun g => ⟨(h g).1, fun e => ((h g).2 e).imp id (fun q => Nat.le_trans hS q)⟩
theorem en_new {v more : Value} {m : Int} {n lo hi : Nat} {W : World} (h : Mkd W v more m n) (hn : n ≤ 4294967295) (hv : Rv v lo hi) (hs : hi ≤ W.heap.size) : EN W (v, more, m) := ⟨⟨n, hn, h⟩, fun g hg => Nat.lt_of_lt_of_le (hv g hg).2 hs, h.ltMore⟩
theorem ee_new {v more : Value} {m : Int} {n lo hi : Nat} {W : World} (h : Mke W v more m n) (hn : n ≤ 4294967295) (hv : Rv v lo hi) (hs : hi ≤ W.heap.size) : EE W (v, more, m) := ⟨⟨n, hn, h⟩, fun g hg => Nat.lt_of_lt_of_le (hv g hg).2 hs, h.ltMore⟩
theorem owns_rv {t : TypeId} {W : World} {B sz n : Nat} {v : Value} {xs : List Value} (h : W.ownsRow B t sz v n xs) : Rv v B W.heap.size := World.ownsRow.lt h
theorem owns_below {t : TypeId} {W W' : World} {B sz n : Nat} {v : Value} {xs : List Value} (h : W.ownsRow B t sz v n xs) (hb : Below W.heap.size W W') : W'.ownsRow B t sz v n xs := owns_ch (ks := fun _ => False) h (Ch.of_below hb) (fun _ _ h => h)
end Go.Proofs.Ytgfonnjblbpogaa
