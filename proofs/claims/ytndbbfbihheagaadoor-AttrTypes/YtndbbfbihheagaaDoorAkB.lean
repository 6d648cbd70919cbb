import Derived.Test.YtndbbfbihheagaaDoorAtEqS
import Derived.Test.YtndbbfbihheagaaDoorAtDist
import Derived.Maps.AppendAt
import Derived.Lib.AppendZeros
namespace Go.Proofs.YtndbbfbihheagaaDoor
namespace Ak
open Go.RowKit
set_option linter.unusedVariables false
set_option maxRecDepth 100000

theorem hp_new (w : World) (o : Obj) : (w.alloc o).heap[w.heap.size]? = some o := by
  show (w.heap.push o)[w.heap.size]? = some o
  simp
/-- An append to a row of the call's own: what was there is still read by the slice that was. -/
theorem append_both {P : Program} (w : World) (base : Nat) (t ty e : TypeId) (i : TypeInfo) (z : Value) (size bytes : Nat) (ht : P.underlying t = some (.slice e)) (hi : P.info? e = some i) (hz : i.zero = some z)
    (hsize : i.size = size) (hby : i.bytes = bytes) (hzs : z.cells.size = size) (hsz : 0 < size)
    (v : Value) (n : Nat) (xs : List Value) (hown : w.ownsRow base e size v n xs)
    (a : Addr) (m c : Nat) (news : List Value) (hl : news.length = m * size) (hnews : ∀ j u, news[j]? = some u → w.cell? (a.add j) = some u) (h1 : ∀ u ∈ news, u.oneCell' = true)
    (hm : 0 < m) (h63 : n + m ≤ maxLen) (hbytes : (n + m) * bytes ≤ 140737488355328) (hbase : base ≤ w.heap.size) :
    ∃ v' w', (Builtin.append_ #[t, t] ty #[v, .slice (some a) m c]).run P w = .ok v' w' ∧ w'.ownsRow base e size v' (n + m) (xs ++ news) ∧ w.grownBy w' v.ownBlock ∧
      (∀ g cap, v = .slice (some ⟨g, 0, none⟩) n cap → ∀ j u, xs[j]? = some u → w'.cell? ⟨g, j, none⟩ = some u) ∧ (v'.ownBlock = v.ownBlock ∨ v'.ownBlock = some w.heap.size) := by
  obtain ⟨v', w', hr, h2, h3, h4, h5⟩ := run_append_own_at (P := P) w base t ty e i z size bytes ht hi hz hsize hby hzs hsz v n xs hown a m c news hl hnews h1 h63 hbytes hbase
  refine ⟨v', w', hr, h2, h3, ?_, h5⟩
  intro g cap hv j u hj
  subst hv
  subst hsize hby
  have hadd : ∀ (g' j : Nat), (⟨g', 0, none⟩ : Addr).add j = ⟨g', j, none⟩ := fun g' j => by unfold Addr.add; split <;> simp_all
  rcases hown.2 with ⟨h, _⟩ | ⟨g', cap', cur, hv, hbg, hg, hnc, hcm, hcs, htake⟩
  · injection h with h; cases h
  · injection hv with ha hn hc
    injection ha with ha
    injection ha with ha
    subst ha hc
    by_cases hroom : n + m ≤ cap
    · have hfit : n * i.size + news.length ≤ cur.size := by rw [hl, hcs, ← Nat.add_mul]; exact Nat.mul_le_mul_right _ hroom
      have hr' := run_append_room (P := P) w t ty e i ht hi g n cap cur hg a m c news hl hnews h1 hroom hfit
      rw [hr] at hr'
      injection hr' with hv' hw'
      subst hv'
      have := h2.cells (g := g) rfl j u (by rw [List.getElem?_append_left (by
        rcases Nat.lt_or_ge j xs.length with q | q
        · exact q
        · rw [List.getElem?_eq_none q] at hj; cases hj)]; exact hj)
      rw [hadd] at this
      exact this
    · have holds : ∀ j u, xs[j]? = some u → w.cell? ((⟨g, 0, none⟩ : Addr).add j) = some u := hown.cells (g := g) rfl
      have hr' := run_append_grow (P := P) w t ty e i z ht hi hz ⟨g, 0, none⟩ n cap xs hown.1 holds a m c news hl hnews (by omega) (by have h63' := h63; simp only [maxLen] at h63'; omega) (growslice_fits (by omega) hbytes)
      rw [hr] at hr'
      injection hr' with hv' hw'
      rw [hw']
      have hlt : g < w.heap.size := (Array.getElem?_eq_some_iff.1 hg).1
      have hc := holds j u hj
      rw [hadd] at hc
      rw [World.cell?_alloc_past _ _ _ (by exact hlt)]
      exact hc
/-- A cell written into a row of the call's own. -/
theorem own_setAt {w : World} {B : Nat} {t : TypeId} {size g n cap : Nat} {xs : List Value} (h : w.ownsRow B t size (.slice (some ⟨g, 0, none⟩) n cap) n xs) (j : Nat) (u : Value) : (w.setCell ⟨g, j, none⟩ u).ownsRow B t size (.slice (some ⟨g, 0, none⟩) n cap) n (xs.set j u) := by
  rcases h with ⟨h1, ⟨h2, _⟩ | ⟨g', cap', cur, h2, h3, h4, h5, h6, h7, h8⟩⟩
  · injection h2 with h2; cases h2
  · injection h2 with ha hn hc
    injection ha with ha
    injection ha with ha
    subst ha hc
    refine ⟨by rw [List.length_set]; exact h1, Or.inr ⟨g, cap, _, rfl, h3, Go.heap_setCell_same _ _ _ _ _ _ h4, h5, h6, by rw [Array.size_setIfInBounds]; exact h7, ?_⟩⟩
    rw [← h8]
    simp [List.take_set]
theorem own_free {w : World} {B : Nat} {t : TypeId} {size g n cap : Nat} {xs : List Value} (h : w.ownsRow B t size (.slice (some ⟨g, 0, none⟩) n cap) n xs) (j : Nat) : w.frozen? ⟨g, j, none⟩ = false := by
  rcases h with ⟨_, ⟨h2, _⟩ | ⟨g', cap', cur, h2, _, h4, _⟩⟩
  · injection h2 with h2; cases h2
  · injection h2 with ha hn hc
    injection ha with ha
    injection ha with ha
    subst ha
    exact Go.frozen_of_row _ _ _ _ _ h4
theorem cell_setB {W : World} {h D b j : Nat} {v : Value} (hne : b ≠ h) : (W.setCell ⟨h, D, none⟩ v).cell? ⟨b, j, none⟩ = W.cell? ⟨b, j, none⟩ := by
  unfold World.cell?
  rw [Below.heap_setCell _ _ _ _ hne]
/-- Only the named blocks may have turned. -/
def Ch (ks : Nat → Prop) (W W' : World) : Prop := W'.os = W.os ∧ W'.tape = W.tape ∧ W'.output = W.output ∧ W.heap.size ≤ W'.heap.size ∧ ∀ k, k < W.heap.size → ¬ ks k → W'.heap[k]? = W.heap[k]?
theorem Ch.of_below {ks : Nat → Prop} {W W' : World} (h : Below W.heap.size W W') : Ch ks W W' := ⟨h.os, h.tape, h.output, h.size, fun k hk _ => h.block k hk⟩
theorem Ch.trans {ks : Nat → Prop} {A B C : World} (h : Ch ks A B) (h' : Ch ks B C) : Ch ks A C := by
  obtain ⟨a1, a2, a3, a4, a5⟩ := h
  obtain ⟨b1, b2, b3, b4, b5⟩ := h'
  exact ⟨b1.trans a1, b2.trans a2, b3.trans a3, Nat.le_trans a4 b4, fun k hk hn => (b5 k (by omega) hn).trans (a5 k hk hn)⟩
theorem Ch.set {ks : Nat → Prop} (W : World) (p : Addr) (v : Value) (h : ks p.block) : Ch ks W (W.setCell p v) := ⟨rfl, rfl, rfl, by rw [World.size_setCell]; exact Nat.le_refl _, fun k _ hn => Below.heap_setCell _ _ _ _ (fun e => hn (by rw [e]; exact h))⟩
theorem Ch.of_grown {ks : Nat → Prop} {W W' : World} {row : Option Nat} (h : W.grownBy W' row) (hr : ∀ r, row = some r → ks r) : Ch ks W W' := ⟨h.os, h.tape, h.output, h.size, fun k hk hn => h.block k hk (fun e => hn (hr k e.symm))⟩
theorem Ch.below {ks : Nat → Prop} {W W' : World} {B : Nat} (h : Ch ks W W') (hB : B ≤ W.heap.size) (hk : ∀ k, ks k → B ≤ k) : Below B W W' := ⟨h.1, h.2.1, h.2.2.1, h.2.2.2.1, fun k hlt => h.2.2.2.2 k (by omega) (fun e => by have := hk k e; omega)⟩
theorem Ch.put {ks : Nat → Prop} {A W : World} (h : Ch ks A W) (g j : Nat) (u : Value) (hk : ks g) : Ch ks A (W.setCell ⟨g, j, none⟩ u) := h.trans (Ch.set W ⟨g, j, none⟩ u hk)
theorem Ch.setNew {ks : Nat → Prop} {W W' : World} (h : Ch ks W W') (p : Addr) (u : Value) (hp : W.heap.size ≤ p.block) : Ch ks W (W'.setCell p u) := by
  obtain ⟨h1, h2, h3, h4, h5⟩ := h
  exact ⟨h1, h2, h3, by rw [World.size_setCell]; exact h4, fun k hk hn => (Below.heap_setCell _ _ _ _ (by omega)).trans (h5 k hk hn)⟩


theorem own_base2 {w : World} {B : Nat} {v : Value} {l : List (List UInt8)} (h : OwnS w B v l) : ∃ a c, v = .slice a l.length c := by
  rcases ownS_form h with ⟨rfl, rfl⟩ | ⟨g, cap, rfl⟩
  · exact ⟨_, _, rfl⟩
  · exact ⟨_, _, rfl⟩
theorem ownS_row {w : World} {B n c : Nat} {a : Option Addr} {l : List (List UInt8)} (h : OwnS w B (.slice a n c) l) : Row w a l ∧ n = l.length := by
  rcases ownS_form h with ⟨h1, rfl⟩ | ⟨g, cap, h1⟩
  · injection h1 with h1 h2
    exact ⟨fun i hi => by simp at hi, h2⟩
  · injection h1 with h1 h2 h3
    subst h1 h2 h3
    exact ⟨fun i hi => ⟨g, 0, rfl, by rw [Nat.zero_add]; exact ownS_cell h i hi⟩, rfl⟩
theorem ownS_below {w w' : World} {B : Nat} {v : Value} {l : List (List UInt8)} (h : OwnS w B v l) (hb : Below w.heap.size w w') : OwnS w' B v l := ownS_of h (fun g hg => hb.block g (ownS_lt h hg).2)
theorem ownS_ch {ks : Nat → Prop} {w w' : World} {B : Nat} {v : Value} {l : List (List UInt8)} (h : OwnS w B v l) (hc : Ch ks w w') (hk : ∀ g, v.ownBlock = some g → ¬ ks g) : OwnS w' B v l := ownS_of h (fun g hg => hc.2.2.2.2 g (ownS_lt h hg).2 (hk g hg))
/-- A list that was handed out, full of marks, and the same with one more. -/
def Mks (W : World) (v more : Value) (m : List UInt8) (n : Nat) : Prop :=
  (∃ a c, v = .slice a n c ∧ Row W a (List.replicate n m)) ∧ (∃ a c, more = .slice a (n + 1) c ∧ Row W a (List.replicate (n + 1) m))
theorem Mks.below {W W' : World} {v more : Value} {m : List UInt8} {n : Nat} (h : Mks W v more m n) (hb : Below W.heap.size W W') : Mks W' v more m n := by
  obtain ⟨⟨a, c, e, r⟩, ⟨a', c', e', r'⟩⟩ := h
  exact ⟨⟨a, c, e, r.below hb⟩, ⟨a', c', e', r'.below hb⟩⟩
theorem Row_ch {ks : Nat → Prop} {w w' : World} {a : Option Addr} {l : List (List UInt8)} (h : Row w a l) (hc : Ch ks w w') (hk : ∀ b off, a = some ⟨b, off, none⟩ → ¬ ks b) : Row w' a l := fun i hi => by
  obtain ⟨b, off, e, h0⟩ := h i hi
  have hlt : b < w.heap.size := World.block_lt_of_cell? w _ h0
  exact ⟨b, off, e, by rw [World.cell?_of_block (w := w) (hc.2.2.2.2 b hlt (hk b off e))]; exact h0⟩
theorem Mks.ch {ks : Nat → Prop} {W W' : World} {v more : Value} {m : List UInt8} {n : Nat} (h : Mks W v more m n) (hc : Ch ks W W') (h1 : ∀ g, v.ownBlock = some g → ¬ ks g) (h2 : ∀ g, more.ownBlock = some g → ¬ ks g) : Mks W' v more m n := by
  obtain ⟨⟨a, c, rfl, r⟩, ⟨a', c', rfl, r'⟩⟩ := h
  exact ⟨⟨a, c, rfl, Row_ch r hc (fun b off e => h1 b (by rw [e]; rfl))⟩, ⟨a', c', rfl, Row_ch r' hc (fun b off e => h2 b (by rw [e]; rfl))⟩⟩
theorem Row_set {w : World} {a : Option Addr} {l : List (List UInt8)} (h : Row w a l) (x j : Nat) (u : Value) (hx : ∀ b off, a = some ⟨b, off, none⟩ → b ≠ x) : Row (w.setCell ⟨x, j, none⟩ u) a l := fun i hi => by
  obtain ⟨b, off, e, h0⟩ := h i hi
  exact ⟨b, off, e, by rw [cell_setB (hx b off e)]; exact h0⟩
theorem Mks.setX {W : World} {v more : Value} {m : List UInt8} {n : Nat} (h : Mks W v more m n) (x j : Nat) (u : Value) (h1 : v.ownBlock ≠ some x) (h2 : more.ownBlock ≠ some x) : Mks (W.setCell ⟨x, j, none⟩ u) v more m n := by
  obtain ⟨⟨a, c, rfl, r⟩, ⟨a', c', rfl, r'⟩⟩ := h
  exact ⟨⟨a, c, rfl, Row_set r x j u (fun b off e hb => h1 (by rw [e, hb]; rfl))⟩, ⟨a', c', rfl, Row_set r' x j u (fun b off e hb => h2 (by rw [e, hb]; rfl))⟩⟩
/-- The marks so far. -/
def msL (m : List UInt8) (k : Nat) (l : List (List UInt8)) : List (List UInt8) := List.replicate k m ++ l.drop k
theorem msL_len (m : List UInt8) (k : Nat) (l : List (List UInt8)) (h : k ≤ l.length) : (msL m k l).length = l.length := by unfold msL; rw [List.length_append, List.length_replicate, List.length_drop]; omega
theorem msL_step (m : List UInt8) (k : Nat) (l : List (List UInt8)) (h : k < l.length) : (msL m k l).set k m = msL m (k + 1) l := by
  unfold msL
  rw [List.set_append_right _ _ (by simp), List.length_replicate, Nat.sub_self, List.drop_eq_getElem_cons h, List.set_cons_zero, List.replicate_succ']
  simp
theorem msL_end (m : List UInt8) (l : List (List UInt8)) : msL m l.length l = List.replicate l.length m := by unfold msL; rw [List.drop_length, List.append_nil]
theorem sv_set (l : List (List UInt8)) (k : Nat) (m : List UInt8) : (sv l).set k (.string (S m)) = sv (l.set k m) := by simp [sv, List.map_set]
theorem ownS_set {w : World} {B g cap : Nat} {l : List (List UInt8)} (h : OwnS w B (.slice (some ⟨g, 0, none⟩) l.length cap) l) (k : Nat) (m : List UInt8) : OwnS (w.setCell ⟨g, k, none⟩ (.string (S m))) B (.slice (some ⟨g, 0, none⟩) l.length cap) (l.set k m) := by
  have := own_setAt (show w.ownsRow B 9 1 _ l.length (sv l) from h) k (.string (S m))
  unfold OwnS
  rw [sv_set, List.length_set] at *
  exact this
/-- One more, the marks kept. -/
theorem moreS_any (w : World) (B : Nat) (v : Value) (m : List UInt8) (n g : Nat) (hown : OwnS w B v (List.replicate n m)) (hg : w.heap[g]? = some (.cells #[.string (S m)] 9 (0, 0))) (hB : B ≤ w.heap.size) (hn : n ≤ 4294967296) :
    ∃ v' w', (Builtin.append_ #[28, 28] 28 #[v, .slice (some ⟨g, 0, none⟩) 1 1]).run Tryd.prog w = .ok v' w' ∧ Mks w' v v' m n ∧ w.grownBy w' v.ownBlock ∧ (v'.ownBlock = v.ownBlock ∨ v'.ownBlock = some w.heap.size) := by
  obtain ⟨i0, hi, hz0, hz1, hz2⟩ := info_parts info_str
  have hrl : (List.replicate n m).length = n := List.length_replicate
  obtain ⟨v', w', hr, h2, h3, h4, h5⟩ := append_both (P := Tryd.prog) w B 28 28 9 i0 _ 1 16 Tryd.underlying28 hi hz0 hz1 hz2 rfl (by decide) v (List.replicate n m).length (sv (List.replicate n m)) hown ⟨g, 0, none⟩ 1 1 (sv [m]) rfl (World.news_of_block hg) (sv_one _) (by decide) (by rw [hrl]; unfold maxLen; omega) (by rw [hrl]; omega) hB
  refine ⟨v', w', hr, ⟨?_, ?_⟩, h3, h5⟩
  · rcases ownS_form hown with ⟨rfl, h0⟩ | ⟨g', cap, rfl⟩
    · have : n = 0 := by rw [← hrl, h0]; rfl
      subst this
      exact ⟨none, 0, rfl, fun i hi => by simp at hi⟩
    · refine ⟨some ⟨g', 0, none⟩, cap, by rw [hrl], fun i hi => ⟨g', 0, rfl, ?_⟩⟩
      rw [Nat.zero_add]
      exact h4 g' cap rfl i _ (by
        have hi' : i < n := by rw [hrl] at hi; exact hi
        simp [sv, hi'])
  · have ho' : OwnS w' B v' (List.replicate (n + 1) m) := by
      unfold OwnS
      rw [List.replicate_succ', sv_app, List.length_append]
      exact h2
    obtain ⟨a, c, rfl⟩ := own_base2 ho'
    have hr' := ownS_row ho'
    refine ⟨a, c, by rw [List.length_replicate], hr'.1⟩


theorem sub_len : ∀ (m l : List (List UInt8)), m.Nodup → (∀ x ∈ m, x ∈ l) → m.length ≤ l.length
  | [], _, _, _ => Nat.zero_le _
  | x :: m, l, hn, h => by
    have hx := h x List.mem_cons_self
    have hn' := List.nodup_cons.1 hn
    have h1 := sub_len m (l.erase x) hn'.2 (fun z hz => (List.mem_erase_of_ne (fun e => hn'.1 (by rw [← e]; exact hz))).2 (h z (List.mem_cons_of_mem _ hz)))
    rw [List.length_erase_of_mem hx] at h1
    have := List.length_pos_of_mem hx
    rw [List.length_cons]
    omega
/-- A row of slices of the call's own. -/
def OwnB (W : World) (B : Nat) (v : Value) (l : List Value) : Prop := W.ownsRow B 28 1 v l.length l
theorem info_sl : (Tryd.prog.info? 28).map (fun i => (i.zero, i.size, i.bytes)) = some (some (.slice none 0 0), 1, 24) := by kernel_rfl
theorem ownB_of {w w' : World} {B : Nat} {v : Value} {l : List Value} (h : OwnB w B v l) (hb : ∀ g, v.ownBlock = some g → w'.heap[g]? = w.heap[g]?) : OwnB w' B v l := by
  rcases h with ⟨h1, ⟨rfl, h2⟩ | ⟨g, cap, cur, rfl, h3, h4, h5⟩⟩
  · exact ⟨h1, Or.inl ⟨rfl, h2⟩⟩
  · exact ⟨h1, Or.inr ⟨g, cap, cur, rfl, h3, by rw [hb g rfl]; exact h4, h5⟩⟩
theorem ownB_lt {w : World} {B g : Nat} {v : Value} {l : List Value} (h : OwnB w B v l) (hg : v.ownBlock = some g) : B ≤ g ∧ g < w.heap.size := World.ownsRow.lt (show w.ownsRow B 28 1 v l.length l from h) g hg
theorem ownB_any {w : World} {B : Nat} {v : Value} {l : List Value} (h : OwnB w B v l) : ∃ a c, v = .slice a l.length c ∧ ∀ i (hi : i < l.length), ∃ b, a = some ⟨b, 0, none⟩ ∧ w.cell? ⟨b, i, none⟩ = some l[i] := by
  have h0 := h
  rcases h.2 with ⟨rfl, hn⟩ | ⟨g, cap, cur, rfl, _⟩
  · have hl : l = [] := List.eq_nil_of_length_eq_zero hn
    subst hl
    exact ⟨none, 0, rfl, fun i hi => by simp at hi⟩
  · refine ⟨_, _, rfl, fun i hi => ⟨g, rfl, ?_⟩⟩
    have hc := World.ownsRow.cellAt (show w.ownsRow B 28 1 _ l.length l from h0) i (by omega)
    rw [hc, List.getElem?_eq_getElem hi]
/-- A list that is kept: what it is, its mark, its length. -/
abbrev KE := Value × List UInt8 × Nat
def kb (bs : List KE) : List Value := bs.map (fun x : KE => x.1)
def km (bs : List KE) : List (List UInt8) := bs.map (fun x : KE => x.2.1)
def EK (W : World) (x : KE) : Prop := (∃ a c, x.1 = .slice a x.2.2 c ∧ Row W a (List.replicate x.2.2 x.2.1)) ∧ (∀ g, x.1.ownBlock = some g → g < W.heap.size) ∧ x.2.2 ≤ 8388608
theorem EK.ch {ks : Nat → Prop} {W W' : World} {x : KE} (h : EK W x) (hc : Ch ks W W') (hk : ∀ g, x.1.ownBlock = some g → ¬ ks g) : EK W' x := by
  obtain ⟨⟨a, c, e, r⟩, h1, h2⟩ := h
  exact ⟨⟨a, c, e, Row_ch r hc (fun b off e' => hk b (by rw [e, e']; rfl))⟩, fun g hg => Nat.lt_of_lt_of_le (h1 g hg) hc.2.2.2.1, h2⟩
/-- The two lists of what is kept. -/
structure KS (W : World) (B : Nat) (bv mv : Value) (bs : List KE) : Prop where
  book : OwnB W B bv (kb bs)
  marks : OwnS W B mv (km bs)
  all : ∀ x ∈ bs, EK W x ∧ ∀ g, x.1.ownBlock = some g → bv.ownBlock ≠ some g ∧ mv.ownBlock ≠ some g
  two : ∀ g, bv.ownBlock = some g → mv.ownBlock ≠ some g
theorem KS.ch {ks : Nat → Prop} {W W' : World} {B : Nat} {bv mv : Value} {bs : List KE} (h : KS W B bv mv bs) (hc : Ch ks W W') (h1 : ∀ g, bv.ownBlock = some g → ¬ ks g) (h2 : ∀ g, mv.ownBlock = some g → ¬ ks g) (h3 : ∀ x ∈ bs, ∀ g, x.1.ownBlock = some g → ¬ ks g) : KS W' B bv mv bs :=
  ⟨ownB_of h.book (fun g hg => hc.2.2.2.2 g (ownB_lt h.book hg).2 (h1 g hg)), ownS_ch h.marks hc h2, fun x hx => ⟨(h.all x hx).1.ch hc (h3 x hx), (h.all x hx).2⟩, h.two⟩
theorem KS.below {W W' : World} {B : Nat} {bv mv : Value} {bs : List KE} (h : KS W B bv mv bs) (hb : Below W.heap.size W W') : KS W' B bv mv bs := h.ch (ks := fun _ => False) (Ch.of_below hb) (fun _ _ q => q) (fun _ _ q => q) (fun _ _ _ _ q => q)
/-- A block that nothing of what is kept lies in. -/
def Free (bv mv : Value) (bs : List KE) (g : Nat) : Prop := bv.ownBlock ≠ some g ∧ mv.ownBlock ≠ some g ∧ ∀ x ∈ bs, x.1.ownBlock ≠ some g
/-- A list, full of marks, is kept: three appends. -/
theorem keep_step (W : World) (B Bl n : Nat) (l bv mv : Value) (bs : List KE) (m : List UInt8) (hl : OwnS W Bl l (List.replicate n m)) (hK : KS W B bv mv bs) (hF : ∀ g, l.ownBlock = some g → Free bv mv bs g) (hB : B ≤ W.heap.size) (hBl : Bl ≤ W.heap.size) (hn : n ≤ 8388607) (hbn : bs.length ≤ 4096) :
    ∃ more W2 bv' W4 mv' W6,
      (Builtin.append_ #[28, 28] 28 #[l, .slice (some ⟨W.heap.size, 0, none⟩) 1 1]).run Tryd.prog (W.alloc (.cells #[.string (S m)] 9)) = .ok more W2 ∧
      (Builtin.append_ #[27, 27] 27 #[bv, .slice (some ⟨W2.heap.size, 0, none⟩) 2 2]).run Tryd.prog (W2.alloc (.cells #[l, more] 28)) = .ok bv' W4 ∧
      (Builtin.append_ #[28, 28] 28 #[mv, .slice (some ⟨W4.heap.size, 0, none⟩) 2 2]).run Tryd.prog (W4.alloc (.cells #[.string (S m), .string (S m)] 9)) = .ok mv' W6 ∧
      KS W6 B bv' mv' (bs ++ [(l, m, n), (more, m, n + 1)]) ∧ (∃ a c, more = .slice a (n + 1) c) ∧
      Ch (fun g => l.ownBlock = some g ∨ bv.ownBlock = some g ∨ mv.ownBlock = some g) W W6 ∧
      (∀ g, g < W.heap.size → l.ownBlock ≠ some g → Free bv mv bs g → Free bv' mv' (bs ++ [(l, m, n), (more, m, n + 1)]) g) := by
  obtain ⟨W1, hW1⟩ : ∃ W1, W.alloc (.cells #[.string (S m)] 9) = W1 := ⟨_, rfl⟩
  have hb1 : Below W.heap.size W W1 := by rw [← hW1]; exact (Below.refl _ _).alloc (Nat.le_refl _) _
  have hs1 : W1.heap.size = W.heap.size + 1 := by rw [← hW1]; simp
  have hg1 : W1.heap[W.heap.size]? = some (.cells #[.string (S m)] 9 (0, 0)) := by rw [← hW1]; exact hp_new _ _
  obtain ⟨more, W2, hr1, hM2, hgr2, hob2⟩ := moreS_any W1 Bl l m n W.heap.size (ownS_below hl hb1) hg1 (by omega) (by omega)
  have hc2 : Ch (fun g => l.ownBlock = some g) W1 W2 := Ch.of_grown hgr2 (fun r hr => hr)
  have hs2 : W1.heap.size ≤ W2.heap.size := hc2.2.2.2.1
  have hlb : ∀ g, l.ownBlock = some g → g < W.heap.size := fun g hg => (ownS_lt hl hg).2
  have hK2 : KS W2 B bv mv bs := (hK.below hb1).ch hc2 (fun g hg q => (hF g q).1 hg) (fun g hg q => (hF g q).2.1 hg) (fun x hx g hg q => (hF g q).2.2 x hx hg)
  obtain ⟨⟨la, lc, hle, hlr⟩, ⟨ma, mc, hme, hmr⟩⟩ := hM2
  have hmb : ∀ g, more.ownBlock = some g → l.ownBlock = some g ∨ g = W1.heap.size := fun g hg => by
    rcases hob2 with q | q
    · rw [q] at hg; exact Or.inl hg
    · rw [q] at hg; injection hg with hg; exact Or.inr hg.symm
  have hml : ∀ g, more.ownBlock = some g → g < W2.heap.size := fun g hg => by
    obtain ⟨b, off, e, hc⟩ := hmr 0 (by rw [List.length_replicate]; omega)
    rw [hme, e] at hg
    injection hg with hg
    replace hg : b = g := hg
    subst hg
    exact World.block_lt_of_cell? W2 _ hc
  obtain ⟨W3, hW3⟩ : ∃ W3, W2.alloc (.cells #[l, more] 28) = W3 := ⟨_, rfl⟩
  have hb3 : Below W2.heap.size W2 W3 := by rw [← hW3]; exact (Below.refl _ _).alloc (Nat.le_refl _) _
  have hs3 : W3.heap.size = W2.heap.size + 1 := by rw [← hW3]; simp
  have hg3 : W3.heap[W2.heap.size]? = some (.cells [l, more].toArray 28 (0, 0)) := by rw [← hW3]; exact hp_new _ _
  have hK3 : KS W3 B bv mv bs := hK2.below hb3
  obtain ⟨i0, hi, hz0, hz1, hz2⟩ := info_parts info_sl
  have hone : ∀ u ∈ [l, more], u.oneCell' = true := by
    intro u hu
    simp at hu
    rcases hu with rfl | rfl
    · rw [hle]; rfl
    · rw [hme]; rfl
  have hbl : (kb bs).length = bs.length := List.length_map _
  obtain ⟨gb, capb, W4, hr2, hO4, hgr4, hv4, _⟩ := run_append_lies (P := Tryd.prog) W3 27 27 B 28 i0 _ 1 24 Tryd.underlying27 hi hz0 hz1 hz2 rfl (by decide) bv (kb bs).length (kb bs) hK3.book ⟨W2.heap.size, 0, none⟩ 2 2 [l, more] rfl (by simpa using World.news_of_block hg3) hone (by decide) (by rw [hbl]; unfold maxLen; omega) (by rw [hbl]; omega) (by omega) W3.heap.size rfl
  have hc4 : Ch (fun g => bv.ownBlock = some g) W3 W4 := Ch.of_grown hgr4 (fun r hr => hr)
  have hs4 : W3.heap.size ≤ W4.heap.size := hc4.2.2.2.1
  obtain ⟨W5, hW5⟩ : ∃ W5, W4.alloc (.cells #[.string (S m), .string (S m)] 9) = W5 := ⟨_, rfl⟩
  have hb5 : Below W4.heap.size W4 W5 := by rw [← hW5]; exact (Below.refl _ _).alloc (Nat.le_refl _) _
  have hs5 : W5.heap.size = W4.heap.size + 1 := by rw [← hW5]; simp
  have hg5 : W5.heap[W4.heap.size]? = some (.cells (sv [m, m]).toArray 9 (0, 0)) := by rw [← hW5]; exact hp_new _ _
  have hm5 : OwnS W5 B mv (km bs) := ownS_below (ownS_ch hK3.marks hc4 (fun g hg q => hK3.two g q hg)) hb5
  obtain ⟨j0, hj, hy0, hy1, hy2⟩ := info_parts info_str
  have hbl2 : (km bs).length = bs.length := List.length_map _
  obtain ⟨gm, capm, W6, hr3, hO6, hgr6, hv6, _⟩ := run_append_lies (P := Tryd.prog) W5 28 28 B 9 j0 _ 1 16 Tryd.underlying28 hj hy0 hy1 hy2 rfl (by decide) mv (km bs).length (sv (km bs)) hm5 ⟨W4.heap.size, 0, none⟩ 2 2 (sv [m, m]) rfl (by simpa using World.news_of_block hg5) (sv_one _) (by decide) (by rw [hbl2]; unfold maxLen; omega) (by rw [hbl2]; omega) (by omega) W5.heap.size rfl
  have hc6 : Ch (fun g => mv.ownBlock = some g) W5 W6 := Ch.of_grown hgr6 (fun r hr => hr)
  have hs6 : W5.heap.size ≤ W6.heap.size := hc6.2.2.2.1
  have hvb : ∀ g, gb = g → bv.ownBlock = some g ∨ W3.heap.size ≤ g := fun g e => by subst e; exact hv4.imp id (fun e => by omega)
  have hvm : ∀ g, gm = g → mv.ownBlock = some g ∨ W5.heap.size ≤ g := fun g e => by subst e; exact hv6.imp id (fun e => by omega)
  have hbvl : ∀ g, bv.ownBlock = some g → g < W.heap.size := fun g hg => (ownB_lt hK.book hg).2
  have hmvl : ∀ g, mv.ownBlock = some g → g < W.heap.size := fun g hg => (ownS_lt hK.marks hg).2
  have hgb6 : gb < W4.heap.size := (World.ownsRow.lt hO4 gb rfl).2
  have ek6 : ∀ x : KE, EK W3 x → (∀ g, x.1.ownBlock = some g → bv.ownBlock ≠ some g ∧ mv.ownBlock ≠ some g) → EK W6 x := fun x hx ha =>
    ((hx.ch hc4 (fun g hg q => (ha g hg).1 q)).ch (Ch.of_below (ks := fun _ => False) hb5) (fun _ _ q => q)).ch hc6 (fun g hg q => (ha g hg).2 q)
  have ap6 : ∀ x : KE, (∀ g, x.1.ownBlock = some g → g < W3.heap.size) → (∀ g, x.1.ownBlock = some g → bv.ownBlock ≠ some g ∧ mv.ownBlock ≠ some g) → ∀ g, x.1.ownBlock = some g → (Value.slice (some ⟨gb, 0, none⟩) ((kb bs).length + 2) capb).ownBlock ≠ some g ∧ (Value.slice (some ⟨gm, 0, none⟩) ((km bs).length + 2) capm).ownBlock ≠ some g := fun x hl ha g hg => by
    have h3 := hl g hg
    refine ⟨fun e => ?_, fun e => ?_⟩
    · have e' : gb = g := by simpa [Value.ownBlock] using e
      rcases hvb g e' with q | q
      · exact (ha g hg).1 q
      · omega
    · have e' : gm = g := by simpa [Value.ownBlock] using e
      rcases hvm g e' with q | q
      · exact (ha g hg).2 q
      · omega
  have hlW3 : EK W3 (l, m, n) := ⟨⟨la, lc, hle, Row_ch hlr (Ch.of_below (ks := fun _ => False) hb3) (fun _ _ _ q => q)⟩, fun g hg => by have := hlb g hg; omega, by show n ≤ 8388608; omega⟩
  have hmW3 : EK W3 (more, m, n + 1) := ⟨⟨ma, mc, hme, Row_ch hmr (Ch.of_below (ks := fun _ => False) hb3) (fun _ _ _ q => q)⟩, fun g hg => by have := hml g hg; omega, by show n + 1 ≤ 8388608; omega⟩
  have hla : ∀ g, l.ownBlock = some g → bv.ownBlock ≠ some g ∧ mv.ownBlock ≠ some g := fun g hg => ⟨(hF g hg).1, (hF g hg).2.1⟩
  have hma : ∀ g, more.ownBlock = some g → bv.ownBlock ≠ some g ∧ mv.ownBlock ≠ some g := fun g hg => by
    rcases hmb g hg with q | q
    · exact hla g q
    · exact ⟨fun e => by have := hbvl g e; omega, fun e => by have := hmvl g e; omega⟩
  rw [hbl] at hr2
  rw [hbl2] at hr3
  refine ⟨more, W2, .slice (some ⟨gb, 0, none⟩) ((kb bs).length + 2) capb, W4, .slice (some ⟨gm, 0, none⟩) ((km bs).length + 2) capm, W6, by rw [hW1]; exact hr1, by rw [hbl, hW3]; exact hr2, by rw [hbl2, hW5]; exact hr3, ⟨?_, ?_, ?_, ?_⟩, ⟨ma, mc, hme⟩, ?_, ?_⟩
  · have h4 : OwnB W4 B (.slice (some ⟨gb, 0, none⟩) ((kb bs).length + 2) capb) (kb (bs ++ [(l, m, n), (more, m, n + 1)])) := by
      unfold OwnB kb
      rw [List.map_append, List.length_append]
      exact hO4
    refine ownB_of h4 (fun g hg => ?_)
    have e' : gb = g := by simpa [Value.ownBlock] using hg
    subst e'
    rw [hc6.2.2.2.2 gb (by omega) (fun q => ?_), hb5.block gb hgb6]
    rcases hvb gb rfl with r | r
    · exact hK.two gb r q
    · have := hmvl gb q; omega
  · unfold OwnS km
    rw [List.map_append, sv_app, List.length_append]
    exact hO6
  · intro x hx
    rcases List.mem_append.1 hx with hx | hx
    · have h3 := hK3.all x hx
      exact ⟨ek6 x h3.1 h3.2, ap6 x h3.1.2.1 h3.2⟩
    · simp at hx
      rcases hx with rfl | rfl
      · exact ⟨ek6 _ hlW3 hla, ap6 _ hlW3.2.1 hla⟩
      · exact ⟨ek6 _ hmW3 hma, ap6 _ hmW3.2.1 hma⟩
  · intro g hg e
    have e1 : gb = g := by simpa [Value.ownBlock] using hg
    have e2 : gm = g := by simpa [Value.ownBlock] using e
    subst e1
    rcases hvm gb e2 with q | q
    · rcases hvb gb rfl with r | r
      · exact hK.two gb r q
      · have := hmvl gb q; omega
    · omega
  · have c1 : Ch (fun g => l.ownBlock = some g ∨ bv.ownBlock = some g ∨ mv.ownBlock = some g) W W1 := Ch.of_below hb1
    have wk : ∀ {ks ks' : Nat → Prop} {A C : World}, Ch ks A C → (∀ g, ks g → ks' g) → Ch ks' A C := fun h hi => ⟨h.1, h.2.1, h.2.2.1, h.2.2.2.1, fun k hk hn => h.2.2.2.2 k hk (fun q => hn (hi k q))⟩
    exact ((((c1.trans (wk hc2 (fun g q => Or.inl q))).trans (Ch.of_below hb3)).trans (wk hc4 (fun g q => Or.inr (Or.inl q)))).trans (Ch.of_below hb5)).trans (wk hc6 (fun g q => Or.inr (Or.inr q)))
  · intro g hg hl' hf
    refine ⟨fun e => ?_, fun e => ?_, fun x hx e => ?_⟩
    · have e' : gb = g := by simpa [Value.ownBlock] using e
      rcases hvb g e' with q | q
      · exact hf.1 q
      · omega
    · have e' : gm = g := by simpa [Value.ownBlock] using e
      rcases hvm g e' with q | q
      · exact hf.2.1 q
      · omega
    · rcases List.mem_append.1 hx with hx | hx
      · exact hf.2.2 x hx e
      · simp at hx
        rcases hx with rfl | rfl
        · exact hl' e
        · rcases hmb g e with q | q
          · exact hl' q
          · omega
end Ak
end Go.Proofs.YtndbbfbihheagaaDoor
