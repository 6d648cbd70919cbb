import Derived.Test.YtdjfjoidmnciiaaDnRow
import Derived.Maps.AppendAt
import Derived.Lib.AppendZeros
namespace Go.Proofs.Ytdjfjoidmnciiaa
open Go.RowKit
set_option linter.unusedVariables false

theorem hp_new (w : World) (o : Obj) : (w.alloc o).heap[w.heap.size]? = some o := by
  show (w.heap.push o)[w.heap.size]? = some o
  simp
/-- An append to a row of the call's own: what was there is still read by the slice that was. -/
theorem append_both {P : Program} (w : World) (base : Nat) (t ty e : TypeId) (i : TypeInfo) (z : Value) (size bytes : Nat) (ht : P.underlying t = some (.slice e)) (hi : P.info? e = some i) (hz : i.zero = some z)
    (hsize : i.size = size) (hby : i.bytes = bytes) (hzs : z.cells.size = size) (hsz : 0 < size)
    (v : Value) (n : Nat) (xs : List Value) (hown : w.ownsRow base e size v n xs)
    (a : Addr) (m c : Nat) (news : List Value) (hl : news.length = m * size) (hnews : ∀ j u, news[j]? = some u → w.cell? (a.add j) = some u) (h1 : ∀ u ∈ news, u.oneCell' = true)
    (hm : 0 < m) (h63 : n + m ≤ maxLen) (hbytes : (n + m) * bytes ≤ 140737488355328) (hbase : base ≤ w.heap.size) :
    ∃ v' w', (Builtin.append_ #[t, t] ty #[v, .slice (some a) m c]).run P w = .ok v' w' ∧ w'.ownsRow base e size v' (n + m) (xs ++ news) ∧ w.grownBy w' v.ownBlock ∧
      (∀ g cap, v = .slice (some ⟨g, 0, none⟩) n cap → ∀ j u, xs[j]? = some u → w'.cell? ⟨g, j, none⟩ = some u) ∧ (v'.ownBlock = v.ownBlock ∨ v'.ownBlock = some w.heap.size) := by
  obtain ⟨v', w', hr, h2, h3, h4, h5⟩ := run_append_own_at (P := P) w base t ty e i z size bytes ht hi hz hsize hby hzs hsz v n xs hown a m c news hl hnews h1 h63 hbytes hbase
  refine ⟨v', w', hr, h2, h3, ?_, h5⟩
  intro g cap hv j u hj
  subst hv
  subst hsize hby
  have hadd : ∀ (g' j : Nat), (⟨g', 0, none⟩ : Addr).add j = ⟨g', j, none⟩ := fun g' j => by unfold Addr.add; split <;> simp_all
  rcases hown.2 with ⟨h, _⟩ | ⟨g', cap', cur, hv, hbg, hg, hnc, hcm, hcs, htake⟩
  · injection h with h; cases h
  · injection hv with ha hn hc
    injection ha with ha
    injection ha with ha
    subst ha hc
    by_cases hroom : n + m ≤ cap
    · have hfit : n * i.size + news.length ≤ cur.size := by rw [hl, hcs, ← Nat.add_mul]; exact Nat.mul_le_mul_right _ hroom
      have hr' := run_append_room (P := P) w t ty e i ht hi g n cap cur hg a m c news hl hnews h1 hroom hfit
      rw [hr] at hr'
      injection hr' with hv' hw'
      subst hv'
      have := h2.cells (g := g) rfl j u (by rw [List.getElem?_append_left (by
        rcases Nat.lt_or_ge j xs.length with q | q
        · exact q
        · rw [List.getElem?_eq_none q] at hj; cases hj)]; exact hj)
      rw [hadd] at this
      exact this
    · have holds : ∀ j u, xs[j]? = some u → w.cell? ((⟨g, 0, none⟩ : Addr).add j) = some u := hown.cells (g := g) rfl
      have hr' := run_append_grow (P := P) w t ty e i z ht hi hz ⟨g, 0, none⟩ n cap xs hown.1 holds a m c news hl hnews (by omega) (by have h63' := h63; simp only [maxLen] at h63'; omega) (growslice_fits (by omega) hbytes)
      rw [hr] at hr'
      injection hr' with hv' hw'
      rw [hw']
      have hlt : g < w.heap.size := (Array.getElem?_eq_some_iff.1 hg).1
      have hc := holds j u hj
      rw [hadd] at hc
      rw [World.cell?_alloc_past _ _ _ (by exact hlt)]
      exact hc
/-- A cell written into a row of the call's own. -/
theorem own_setAt {w : World} {B : Nat} {t : TypeId} {size g n cap : Nat} {xs : List Value} (h : w.ownsRow B t size (.slice (some ⟨g, 0, none⟩) n cap) n xs) (j : Nat) (u : Value) : (w.setCell ⟨g, j, none⟩ u).ownsRow B t size (.slice (some ⟨g, 0, none⟩) n cap) n (xs.set j u) := by
  rcases h with ⟨h1, ⟨h2, _⟩ | ⟨g', cap', cur, h2, h3, h4, h5, h6, h7, h8⟩⟩
  · injection h2 with h2; cases h2
  · injection h2 with ha hn hc
    injection ha with ha
    injection ha with ha
    subst ha hc
    refine ⟨by rw [List.length_set]; exact h1, Or.inr ⟨g, cap, _, rfl, h3, Go.heap_setCell_same _ _ _ _ _ _ h4, h5, h6, by rw [Array.size_setIfInBounds]; exact h7, ?_⟩⟩
    rw [← h8]
    simp [List.take_set]
theorem own_free {w : World} {B : Nat} {t : TypeId} {size g n cap : Nat} {xs : List Value} (h : w.ownsRow B t size (.slice (some ⟨g, 0, none⟩) n cap) n xs) (j : Nat) : w.frozen? ⟨g, j, none⟩ = false := by
  rcases h with ⟨_, ⟨h2, _⟩ | ⟨g', cap', cur, h2, _, h4, _⟩⟩
  · injection h2 with h2; cases h2
  · injection h2 with ha hn hc
    injection ha with ha
    injection ha with ha
    subst ha
    exact Go.frozen_of_row _ _ _ _ _ h4
/-- A block whose cells are known, all of them. -/
def Box (W : World) (g : Nat) (t : TypeId) (cs : Array Value) : Prop := W.heap[g]? = some (.cells cs t (0, 0))
theorem Box.cell {W : World} {g : Nat} {t : TypeId} {cs : Array Value} (h : Box W g t cs) (j : Nat) (hj : j < cs.size) : W.cell? ⟨g, j, none⟩ = some cs[j] ∧ W.frozen? ⟨g, j, none⟩ = false := by
  refine ⟨?_, Go.frozen_of_row _ _ _ _ _ h⟩
  rw [cell_of_row W g j cs t (0, 0) h]
  simp [hj]
theorem Box.of {W W' : World} {g : Nat} {t : TypeId} {cs : Array Value} (h : Box W g t cs) (e : W'.heap[g]? = W.heap[g]?) : Box W' g t cs := e.trans h
theorem Box.set {W : World} {g : Nat} {t : TypeId} {cs : Array Value} (h : Box W g t cs) (j : Nat) (u : Value) : Box (W.setCell ⟨g, j, none⟩ u) g t (cs.setIfInBounds j u) := Go.heap_setCell_same _ _ _ _ _ _ h
theorem Box.lt {W : World} {g : Nat} {t : TypeId} {cs : Array Value} (h : Box W g t cs) : g < W.heap.size := (Array.getElem?_eq_some_iff.1 h).1
theorem Box.new (W : World) (t : TypeId) (cs : Array Value) : Box (W.alloc (.cells cs t)) W.heap.size t cs := hp_new W _
theorem Box.past {W : World} {g : Nat} {t : TypeId} {cs : Array Value} (h : Box W g t cs) (o : _) : Box (W.alloc o) g t cs := h.of (Below.heap_alloc _ _ _ h.lt)
theorem Box.below {W W' : World} {g : Nat} {t : TypeId} {cs : Array Value} (h : Box W g t cs) (hb : Below W.heap.size W W') : Box W' g t cs := h.of (hb.block g h.lt)
theorem at_of {W : World} {g j : Nat} {t : TypeId} {cs : Array Value} {v : Value} (hb : Box W g t cs) (h1 : cs[j]? = some v) : W.cell? ⟨g, j, none⟩ = some v ∧ W.frozen? ⟨g, j, none⟩ = false := by
  have hjs : j < cs.size := (Array.getElem?_eq_some_iff.1 h1).1
  have h2 := hb.cell j hjs
  refine ⟨?_, h2.2⟩
  rw [h2.1]
  rw [Array.getElem?_eq_getElem hjs] at h1
  exact h1
theorem cell_setB {W : World} {h D b j : Nat} {v : Value} (hne : b ≠ h) : (W.setCell ⟨h, D, none⟩ v).cell? ⟨b, j, none⟩ = W.cell? ⟨b, j, none⟩ := by
  unfold World.cell?
  rw [Below.heap_setCell _ _ _ _ hne]
/-- Only the named blocks may have turned. -/
def Ch (ks : Nat → Prop) (W W' : World) : Prop := W'.os = W.os ∧ W'.tape = W.tape ∧ W'.output = W.output ∧ W.heap.size ≤ W'.heap.size ∧ ∀ k, k < W.heap.size → ¬ ks k → W'.heap[k]? = W.heap[k]?
theorem Ch.of_below {ks : Nat → Prop} {W W' : World} (h : Below W.heap.size W W') : Ch ks W W' := ⟨h.os, h.tape, h.output, h.size, fun k hk _ => h.block k hk⟩
theorem Ch.trans {ks : Nat → Prop} {A B C : World} (h : Ch ks A B) (h' : Ch ks B C) : Ch ks A C := by
  obtain ⟨a1, a2, a3, a4, a5⟩ := h
  obtain ⟨b1, b2, b3, b4, b5⟩ := h'
  exact ⟨b1.trans a1, b2.trans a2, b3.trans a3, Nat.le_trans a4 b4, fun k hk hn => (b5 k (by omega) hn).trans (a5 k hk hn)⟩
theorem Ch.set {ks : Nat → Prop} (W : World) (p : Addr) (v : Value) (h : ks p.block) : Ch ks W (W.setCell p v) := ⟨rfl, rfl, rfl, by rw [World.size_setCell]; exact Nat.le_refl _, fun k _ hn => Below.heap_setCell _ _ _ _ (fun e => hn (by rw [e]; exact h))⟩
theorem Ch.of_grown {ks : Nat → Prop} {W W' : World} {row : Option Nat} (h : W.grownBy W' row) (hr : ∀ r, row = some r → ks r) : Ch ks W W' := ⟨h.os, h.tape, h.output, h.size, fun k hk hn => h.block k hk (fun e => hn (hr k e.symm))⟩
theorem Ch.below {ks : Nat → Prop} {W W' : World} {B : Nat} (h : Ch ks W W') (hB : B ≤ W.heap.size) (hk : ∀ k, ks k → B ≤ k) : Below B W W' := ⟨h.1, h.2.1, h.2.2.1, h.2.2.2.1, fun k hlt => h.2.2.2.2 k (by omega) (fun e => by have := hk k e; omega)⟩
theorem wo_up (k : Nat) (h : k ≤ 4294967296) : wrap64 ((k : Int) + 1) = ((k + 1 : Nat) : Int) := by unfold wrap64; omega
theorem meas_o (n k kk : Nat) (h : k < n) (e : kk = k + 1) : n - (intOf (.int .i64 (kk : Int))).toNat < n - (intOf (.int .i64 (k : Int))).toNat := by
  subst e
  simp [intOf]
  omega
theorem Ch.put {ks : Nat → Prop} {A W : World} (h : Ch ks A W) (g j : Nat) (u : Value) (hk : ks g) : Ch ks A (W.setCell ⟨g, j, none⟩ u) := h.trans (Ch.set W ⟨g, j, none⟩ u hk)
theorem Ch.setNew {ks : Nat → Prop} {W W' : World} (h : Ch ks W W') (p : Addr) (u : Value) (hp : W.heap.size ≤ p.block) : Ch ks W (W'.setCell p u) := by
  obtain ⟨h1, h2, h3, h4, h5⟩ := h
  exact ⟨h1, h2, h3, by rw [World.size_setCell]; exact h4, fun k hk hn => (Below.heap_setCell _ _ _ _ (by omega)).trans (h5 k hk hn)⟩

theorem own_base2 {w : World} {B : Nat} {v : Value} {l : List (List UInt8)} (h : OwnS w B v l) : ∃ a c, v = .slice a l.length c := by
  rcases ownS_form h with ⟨rfl, rfl⟩ | ⟨g, cap, rfl, _⟩
  · exact ⟨_, _, rfl⟩
  · exact ⟨_, _, rfl⟩
/-- A list that was handed out, full of marks, and the same with one more. -/
def Mks (W : World) (v more : Value) (m : List UInt8) (n : Nat) : Prop :=
  (∃ a c, v = .slice a n c ∧ Row W a (List.replicate n m)) ∧ (∃ a c, more = .slice a (n + 1) c ∧ Row W a (List.replicate (n + 1) m))
theorem Mks.below {W W' : World} {v more : Value} {m : List UInt8} {n : Nat} (h : Mks W v more m n) (hb : Below W.heap.size W W') : Mks W' v more m n := by
  obtain ⟨⟨a, c, e, r⟩, ⟨a', c', e', r'⟩⟩ := h
  exact ⟨⟨a, c, e, r.below hb⟩, ⟨a', c', e', r'.below hb⟩⟩
theorem Row.ch {ks : Nat → Prop} {w w' : World} {a : Option Addr} {l : List (List UInt8)} (h : Row w a l) (hc : Ch ks w w') (hk : ∀ b off, a = some ⟨b, off, none⟩ → ¬ ks b) : Row w' a l := fun i hi => by
  obtain ⟨b, off, e, h0⟩ := h i hi
  have hlt : b < w.heap.size := World.block_lt_of_cell? w _ h0
  exact ⟨b, off, e, by rw [World.cell?_of_block (w := w) (hc.2.2.2.2 b hlt (hk b off e))]; exact h0⟩
theorem Mks.ch {ks : Nat → Prop} {W W' : World} {v more : Value} {m : List UInt8} {n : Nat} (h : Mks W v more m n) (hc : Ch ks W W') (h1 : ∀ g, v.ownBlock = some g → ¬ ks g) (h2 : ∀ g, more.ownBlock = some g → ¬ ks g) : Mks W' v more m n := by
  obtain ⟨⟨a, c, rfl, r⟩, ⟨a', c', rfl, r'⟩⟩ := h
  exact ⟨⟨a, c, rfl, r.ch hc (fun b off e => h1 b (by rw [e]; rfl))⟩, ⟨a', c', rfl, r'.ch hc (fun b off e => h2 b (by rw [e]; rfl))⟩⟩
theorem Row.set {w : World} {a : Option Addr} {l : List (List UInt8)} (h : Row w a l) (x j : Nat) (u : Value) (hx : ∀ b off, a = some ⟨b, off, none⟩ → b ≠ x) : Row (w.setCell ⟨x, j, none⟩ u) a l := fun i hi => by
  obtain ⟨b, off, e, h0⟩ := h i hi
  exact ⟨b, off, e, by rw [cell_setB (hx b off e)]; exact h0⟩
theorem Mks.set {W : World} {v more : Value} {m : List UInt8} {n : Nat} (h : Mks W v more m n) (x j : Nat) (u : Value) (h1 : v.ownBlock ≠ some x) (h2 : more.ownBlock ≠ some x) : Mks (W.setCell ⟨x, j, none⟩ u) v more m n := by
  obtain ⟨⟨a, c, rfl, r⟩, ⟨a', c', rfl, r'⟩⟩ := h
  exact ⟨⟨a, c, rfl, r.set x j u (fun b off e hb => h1 (by rw [e, hb]; rfl))⟩, ⟨a', c', rfl, r'.set x j u (fun b off e hb => h2 (by rw [e, hb]; rfl))⟩⟩
/-- The marks so far. -/
def msL (m : List UInt8) (k : Nat) (l : List (List UInt8)) : List (List UInt8) := List.replicate k m ++ l.drop k
theorem msL_len (m : List UInt8) (k : Nat) (l : List (List UInt8)) (h : k ≤ l.length) : (msL m k l).length = l.length := by unfold msL; rw [List.length_append, List.length_replicate, List.length_drop]; omega
theorem msL_step (m : List UInt8) (k : Nat) (l : List (List UInt8)) (h : k < l.length) : (msL m k l).set k m = msL m (k + 1) l := by
  unfold msL
  rw [List.set_append_right _ _ (by simp), List.length_replicate, Nat.sub_self, List.drop_eq_getElem_cons h, List.set_cons_zero, List.replicate_succ']
  simp
theorem msL_end (m : List UInt8) (l : List (List UInt8)) : msL m l.length l = List.replicate l.length m := by unfold msL; rw [List.drop_length, List.append_nil]
theorem sv_set (l : List (List UInt8)) (k : Nat) (m : List UInt8) : (sv l).set k (.string (S m)) = sv (l.set k m) := by simp [sv, List.map_set]
theorem ownS_set {w : World} {B g cap : Nat} {l : List (List UInt8)} (h : OwnS w B (.slice (some ⟨g, 0, none⟩) l.length cap) l) (k : Nat) (m : List UInt8) : OwnS (w.setCell ⟨g, k, none⟩ (.string (S m))) B (.slice (some ⟨g, 0, none⟩) l.length cap) (l.set k m) := by
  have := own_setAt (show w.ownsRow B 9 1 _ l.length (sv l) from h) k (.string (S m))
  unfold OwnS
  rw [sv_set, List.length_set] at *
  exact this
/-- One more, the marks kept. -/
theorem moreS_any (w : World) (B : Nat) (v : Value) (m : List UInt8) (n g : Nat) (hown : OwnS w B v (List.replicate n m)) (hg : w.heap[g]? = some (.cells #[.string (S m)] 9 (0, 0))) (hB : B ≤ w.heap.size) (hn : n ≤ 4294967296) :
    ∃ v' w', (Builtin.append_ #[23, 23] 23 #[v, .slice (some ⟨g, 0, none⟩) 1 1]).run Try.prog w = .ok v' w' ∧ Mks w' v v' m n ∧ w.grownBy w' v.ownBlock ∧ (v'.ownBlock = v.ownBlock ∨ v'.ownBlock = some w.heap.size) := by
  obtain ⟨i0, hi, hz0, hz1, hz2⟩ := info_parts info_str
  have hrl : (List.replicate n m).length = n := List.length_replicate
  obtain ⟨v', w', hr, h2, h3, h4, h5⟩ := append_both (P := Try.prog) w B 23 23 9 i0 _ 1 16 Try.underlying23 hi hz0 hz1 hz2 rfl (by decide) v (List.replicate n m).length (sv (List.replicate n m)) hown ⟨g, 0, none⟩ 1 1 (sv [m]) rfl (World.news_of_block hg) (sv_one _) (by decide) (by rw [hrl]; unfold maxLen; omega) (by rw [hrl]; omega) hB
  refine ⟨v', w', hr, ⟨?_, ?_⟩, h3, h5⟩
  · rcases ownS_form hown with ⟨rfl, h0⟩ | ⟨g', cap, rfl, _⟩
    · have : n = 0 := by rw [← hrl, h0]; rfl
      subst this
      exact ⟨none, 0, rfl, Row.nil _ _⟩
    · refine ⟨some ⟨g', 0, none⟩, cap, by rw [hrl], fun i hi => ⟨g', 0, rfl, ?_⟩⟩
      rw [Nat.zero_add]
      exact h4 g' cap rfl i _ (by
        have hi' : i < n := by rw [hrl] at hi; exact hi
        simp [sv, hi'])
  · have ho' : OwnS w' B v' (List.replicate (n + 1) m) := by
      unfold OwnS
      rw [List.replicate_succ', sv_app, List.length_append]
      exact h2
    obtain ⟨a, c, rfl⟩ := own_base2 ho'
    have hr' := ownS_row ho'
    refine ⟨a, c, by rw [List.length_replicate], hr'.1⟩

set_option maxRecDepth 100000 in
set_option maxHeartbeats 4000000 in
theorem markTexts_any (B : Nat) (v : Value) (l : List (List UInt8)) (mm : ByteArray) (m : List UInt8) (hmm : mm = S m) (w : World) (hown : OwnS w B v l) (hB : B ≤ w.heap.size) (hn : l.length ≤ 4294967296) :
    Calls Try.prog 7 #[v, .string mm] w fun r w' => ∃ more, r = .returned (.agg #[v, more, .string mm]) ∧ Mks w' v more m l.length ∧ Ch (fun k => v.ownBlock = some k) w w' ∧ ∀ g, more.ownBlock = some g → v.ownBlock = some g ∨ w.heap.size ≤ g := by
  obtain ⟨va, vc, hv⟩ := own_base2 hown
  subst hv
  obtain ⟨n, hnl⟩ : ∃ n, l.length = n := ⟨_, rfl⟩
  rw [hnl] at hown hn ⊢
  have hmm' : Hid (mm = S m) := hmm
  clear hmm
  obtain ⟨W0, hW0⟩ : ∃ W0, w.alloc (.cells #[.slice none 0 0, .slice none 0 0, .string ⟨#[]⟩] 27) = W0 := ⟨_, rfl⟩
  have hX0 : Box W0 w.heap.size 27 #[.slice none 0 0, .slice none 0 0, .string ⟨#[]⟩] := by rw [← hW0]; exact Box.new _ _ _
  have hb0 : Below w.heap.size w W0 := by rw [← hW0]; exact (Below.refl _ _).alloc (Nat.le_refl _) _
  have HH : Hid (l.length = n ∧ n ≤ 4294967296 ∧ B ≤ w.heap.size ∧ OwnS w B (.slice va n vc) l) := ⟨hnl, hn, hB, hown⟩
  have hst : Hid (OwnS W0 B (.slice va n vc) (msL m 0 l) ∧ Ch (fun k => (Value.slice va n vc).ownBlock = some k) w W0 ∧ Box W0 w.heap.size 27 #[.slice none 0 0, .slice none 0 0, .string ⟨#[]⟩]) := ⟨by
    have : msL m 0 l = l := by unfold msL; simp
    rw [this]
    exact ownS_below hown hb0, Ch.of_below hb0, hX0⟩
  clear hown hn hB hX0 hb0 hnl
  go_enter Try.func7, Try.ntmps7
  go_wp2_with fail
  try rw [hW0]
  go_loopw [5] (fun iv wr => ∃ (k : Nat), k ≤ n ∧ iv = .int .i64 (k : Int) ∧ Hid (OwnS wr B (.slice va n vc) (msL m k l) ∧ Ch (fun k => (Value.slice va n vc).ownBlock = some k) w wr ∧ Box wr w.heap.size 27 #[.slice none 0 0, .slice none 0 0, .string ⟨#[]⟩])) (fun iv _ => n - (intOf iv).toNat)
  case atStart => exact ⟨0, Nat.zero_le _, rfl, hst.out⟩
  case round =>
    obtain ⟨k, hk, rfl, HO⟩ := hrel
    clear hst hW0
    have k0 : (0 : Int) ≤ (k : Int) := Int.natCast_nonneg _
    by_cases hlt : k < n
    · have k1 : (k : Int) < (n : Int) := Int.ofNat_lt.2 hlt
      have hll := HH.out.1
      have hlk : (msL m k l).length = n := by rw [msL_len m k l (by omega), hll]
      obtain ⟨g, rfl⟩ : ∃ g, va = some ⟨g, 0, none⟩ := by
        rcases ownS_form HO.out.1 with ⟨h, h'⟩ | ⟨g, cap, h, _⟩
        · rw [h'] at hlk; simp at hlk; omega
        · injection h with h; exact ⟨g, h⟩
      have hO1 : OwnS wr B (.slice (some ⟨g, 0, none⟩) (msL m k l).length vc) (msL m k l) := by rw [hlk]; exact HO.out.1
      have q0 := ownS_cell hO1 k (by omega)
      have r0 := own_free (show wr.ownsRow B 9 1 _ (msL m k l).length (sv (msL m k l)) from hO1) k
      have hset := ownS_set hO1 k m
      rw [msL_step m k l (by omega), hlk, ← hmm'.out] at hset
      have hgB : B ≤ g ∧ g ≠ w.heap.size := by
        rcases hO1.2 with ⟨h, _⟩ | ⟨g', cap, cur, h, h3, h4, _⟩
        · injection h with h; cases h
        · injection h with h _ _
          injection h with h
          injection h with h
          subst h
          refine ⟨h3, fun e => ?_⟩
          subst e
          have := HO.out.2.2
          unfold Box at this
          rw [h4] at this
          injection this with this
          injection this with _ this
          exact absurd this (by decide)
      obtain ⟨kk, hkk⟩ : ∃ kk, kk = k + 1 := ⟨_, rfl⟩
      have hwk : Hid (wrap64 ((k : Int) + 1) = (kk : Int)) := by unfold Hid; rw [hkk]; exact wo_up k (by have := HH.out.2.1; omega)
      have hfin : Hid (OwnS (wr.setCell ⟨g, k, none⟩ (.string mm)) B (.slice (some ⟨g, 0, none⟩) n vc) (msL m kk l) ∧ Ch (fun k => (Value.slice (some ⟨g, 0, none⟩) n vc).ownBlock = some k) w (wr.setCell ⟨g, k, none⟩ (.string mm)) ∧ Box (wr.setCell ⟨g, k, none⟩ (.string mm)) w.heap.size 27 #[.slice none 0 0, .slice none 0 0, .string ⟨#[]⟩]) := by
        rw [hkk]
        have hks : (Value.slice (some ⟨g, 0, none⟩) n vc).ownBlock = some g := rfl
        refine ⟨hset, HO.out.2.1.put g _ _ hks, ?_⟩
        have hne : w.heap.size ≠ g := fun e => hgB.2 e.symm
        exact HO.out.2.2.of (Below.heap_setCell _ _ _ _ hne)
      have hlt' : Hid (k < n ∧ kk = k + 1 ∧ kk ≤ n) := ⟨hlt, hkk, by omega⟩
      have hwk' := hwk.out
      generalize S (msL m k l)[k] = z0 at *
      clear HO HH hO1 hset hgB hkk hwk hlk hll hk hlt
      go_wp2_with fail
      rw [hwk']
      exact ⟨⟨kk, hlt'.out.2.2, rfl, hfin.out⟩, meas_o n k kk hlt'.out.1 hlt'.out.2.1⟩
    · obtain rfl : k = n := by omega
      have k1 : ¬ (k : Int) < (k : Int) := by omega
      have hll := HH.out.1
      have hmk : msL m k l = List.replicate k m := by rw [← hll]; exact msL_end m l
      have HO' := HO.out
      rw [hmk] at HO'
      obtain ⟨Wa, hWa⟩ : ∃ Wa, wr.alloc (.cells #[.string mm] 9) = Wa := ⟨_, rfl⟩
      have hba : Below wr.heap.size wr Wa := by rw [← hWa]; exact (Below.refl _ _).alloc (Nat.le_refl _) _
      have hga : Wa.heap[wr.heap.size]? = some (.cells #[.string (S m)] 9 (0, 0)) := by rw [← hWa, hmm'.out]; exact hp_new wr _
      have hsz := HO'.2.1.2.2.2.1
      obtain ⟨more, w', hr, hM, hgr, hob⟩ := moreS_any Wa B (.slice va k vc) m k wr.heap.size (ownS_below HO'.1 hba) hga (by have := hba.size; have := HH.out.2.2.1; omega) HH.out.2.1
      have hXa : Box Wa w.heap.size 27 #[.slice none 0 0, .slice none 0 0, .string ⟨#[]⟩] := HO'.2.2.below hba
      have hvx : (Value.slice va k vc).ownBlock ≠ some w.heap.size := fun e => by
        rcases HH.out.2.2.2.2 with ⟨h, _⟩ | ⟨g', cap, cur, h, h3, h4, _⟩
        · rw [h] at e; simp [Value.ownBlock] at e
        · rw [h] at e
          simp [Value.ownBlock] at e
          have := (Array.getElem?_eq_some_iff.1 h4).1
          omega
      have hmx : more.ownBlock ≠ some w.heap.size := by
        rcases hob with h | h
        · rw [h]; exact hvx
        · rw [h]
          intro e
          injection e with e
          have := hXa.lt
          omega
      have hX' : Box w' w.heap.size 27 #[.slice none 0 0, .slice none 0 0, .string ⟨#[]⟩] := hXa.of (hgr.block _ hXa.lt (fun e => hvx e.symm))
      obtain ⟨x0, x0f⟩ := at_of hX' (j := 0) (v := .slice none 0 0) rfl
      obtain ⟨x1, x1f⟩ := at_of hX' (j := 1) (v := .slice none 0 0) rfl
      obtain ⟨x2, x2f⟩ := at_of hX' (j := 2) (v := .string ⟨#[]⟩) rfl
      obtain ⟨ma, mc, hmore⟩ : ∃ a c, more = .slice a (k + 1) c := by
        obtain ⟨_, a, c, e, _⟩ := hM
        exact ⟨a, c, e⟩
      have hBw : Ch (fun k' => (Value.slice va k vc).ownBlock = some k') w w' := (HO'.2.1.trans (Ch.of_below hba)).trans (Ch.of_grown hgr (fun r hr => hr))
      have hmo : ∀ g, more.ownBlock = some g → (Value.slice va k vc).ownBlock = some g ∨ w.heap.size ≤ g := fun g hg => by
        rcases hob with h | h
        · exact Or.inl (h ▸ hg)
        · rw [h] at hg; injection hg with hg; have := hba.size; exact Or.inr (by omega)
      have hfin : Hid (Mks (((w'.setCell ⟨w.heap.size, 0, none⟩ (.slice va k vc)).setCell ⟨w.heap.size, 1, none⟩ more).setCell ⟨w.heap.size, 2, none⟩ (.string mm)) (.slice va k vc) more m k ∧ Ch (fun k' => (Value.slice va k vc).ownBlock = some k') w (((w'.setCell ⟨w.heap.size, 0, none⟩ (.slice va k vc)).setCell ⟨w.heap.size, 1, none⟩ more).setCell ⟨w.heap.size, 2, none⟩ (.string mm))) :=
        ⟨((hM.set _ 0 _ hvx hmx).set _ 1 _ hvx hmx).set _ 2 _ hvx hmx, ((hBw.setNew _ _ (Nat.le_refl _)).setNew _ _ (Nat.le_refl _)).setNew _ _ (Nat.le_refl _)⟩
      have hX3 : Box (((w'.setCell ⟨w.heap.size, 0, none⟩ (.slice va k vc)).setCell ⟨w.heap.size, 1, none⟩ more).setCell ⟨w.heap.size, 2, none⟩ (.string mm)) w.heap.size 27 #[.slice va k vc, more, .string mm] := ((hX'.set 0 (.slice va k vc)).set 1 more).set 2 (.string mm)
      have y0 := (at_of hX3 (j := 0) (v := .slice va k vc) rfl).1
      have y1 := (at_of hX3 (j := 1) (v := more) rfl).1
      have y2 := (at_of hX3 (j := 2) (v := .string mm) rfl).1
      subst hmore
      clear HO HO' HH hga hba hM hgr hob hXa hvx hmx hX' hX3 hBw hsz hmk hll
      go_wp2_with (at_builtin; refine Lib.wpList_append_run _ rfl _ _ _ _ rfl _ _ rfl rfl _ _ hr ?_; clear hr)
      refine bodyPost_ret_by (v := .agg #[.slice va k vc, .slice ma (k + 1) mc, .string mm]) ?_ rfl ⟨_, rfl, hfin.out.1, hfin.out.2, hmo⟩
      simp [results, Try.results7, go_sem, y0, y1, y2]
end Go.Proofs.Ytdjfjoidmnciiaa
