import Derived.Test.YtdbhcemmaahemaaPgSts
import Derived.Maps.AppendAt
import Derived.Lib.AppendZeros
import Derived.Deep.AppendLies
namespace Go.Proofs.Ytdbhcemmaahemaa
namespace Pk
open Go.RowKit Go.Sort Go.Lib
open PgMath (Inc setOf cnt)
open PgHpM (Hd)
open PgCnM (occ)
set_option linter.unusedVariables false
set_option maxRecDepth 100000

theorem hp_new (w : World) (o : Obj) : (w.alloc o).heap[w.heap.size]? = some o := by
  show (w.heap.push o)[w.heap.size]? = some o
  simp
/-- An append to a row of the call's own: what was there is still read by the slice that was. -/
theorem append_both {P : Program} (w : World) (base : Nat) (t ty e : TypeId) (i : TypeInfo) (z : Value) (size bytes : Nat) (ht : P.underlying t = some (.slice e)) (hi : P.info? e = some i) (hz : i.zero = some z)
    (hsize : i.size = size) (hby : i.bytes = bytes) (hzs : z.cells.size = size) (hsz : 0 < size)
    (v : Value) (n : Nat) (xs : List Value) (hown : w.ownsRow base e size v n xs)
    (a : Addr) (m c : Nat) (news : List Value) (hl : news.length = m * size) (hnews : ∀ j u, news[j]? = some u → w.cell? (a.add j) = some u) (h1 : ∀ u ∈ news, u.oneCell' = true)
    (hm : 0 < m) (h63 : n + m ≤ maxLen) (hbytes : (n + m) * bytes ≤ 140737488355328) (hbase : base ≤ w.heap.size) :
    ∃ v' w', (Builtin.append_ #[t, t] ty #[v, .slice (some a) m c]).run P w = .ok v' w' ∧ w'.ownsRow base e size v' (n + m) (xs ++ news) ∧ w.grownBy w' v.ownBlock ∧
      (∀ g cap, v = .slice (some ⟨g, 0, none⟩) n cap → ∀ j u, xs[j]? = some u → w'.cell? ⟨g, j, none⟩ = some u) ∧ (v'.ownBlock = v.ownBlock ∨ v'.ownBlock = some w.heap.size) := by
  obtain ⟨v', w', hr, h2, h3, h4, h5⟩ := run_append_own_at (P := P) w base t ty e i z size bytes ht hi hz hsize hby hzs hsz v n xs hown a m c news hl hnews h1 h63 hbytes hbase
  refine ⟨v', w', hr, h2, h3, ?_, h5⟩
  intro g cap hv j u hj
  subst hv
  subst hsize hby
  have hadd : ∀ (g' j : Nat), (⟨g', 0, none⟩ : Addr).add j = ⟨g', j, none⟩ := fun g' j => by unfold Addr.add; split <;> simp_all
  rcases hown.2 with ⟨h, _⟩ | ⟨g', cap', cur, hv, hbg, hg, hnc, hcm, hcs, htake⟩
  · injection h with h; cases h
  · injection hv with ha hn hc
    injection ha with ha
    injection ha with ha
    subst ha hc
    by_cases hroom : n + m ≤ cap
    · have hfit : n * i.size + news.length ≤ cur.size := by rw [hl, hcs, ← Nat.add_mul]; exact Nat.mul_le_mul_right _ hroom
      have hr' := run_append_room (P := P) w t ty e i ht hi g n cap cur hg a m c news hl hnews h1 hroom hfit
      rw [hr] at hr'
      injection hr' with hv' hw'
      subst hv'
      have := h2.cells (g := g) rfl j u (by rw [List.getElem?_append_left (by
        rcases Nat.lt_or_ge j xs.length with q | q
        · exact q
        · rw [List.getElem?_eq_none q] at hj; cases hj)]; exact hj)
      rw [hadd] at this
      exact this
    · have holds : ∀ j u, xs[j]? = some u → w.cell? ((⟨g, 0, none⟩ : Addr).add j) = some u := hown.cells (g := g) rfl
      have hr' := run_append_grow (P := P) w t ty e i z ht hi hz ⟨g, 0, none⟩ n cap xs hown.1 holds a m c news hl hnews (by omega) (by have h63' := h63; simp only [maxLen] at h63'; omega) (growslice_fits (by omega) hbytes)
      rw [hr] at hr'
      injection hr' with hv' hw'
      rw [hw']
      have hlt : g < w.heap.size := (Array.getElem?_eq_some_iff.1 hg).1
      have hc := holds j u hj
      rw [hadd] at hc
      rw [World.cell?_alloc_past _ _ _ (by exact hlt)]
      exact hc
/-- A cell written into a row of the call's own. -/
theorem own_setAt {w : World} {B : Nat} {t : TypeId} {size g n cap : Nat} {xs : List Value} (h : w.ownsRow B t size (.slice (some ⟨g, 0, none⟩) n cap) n xs) (j : Nat) (u : Value) : (w.setCell ⟨g, j, none⟩ u).ownsRow B t size (.slice (some ⟨g, 0, none⟩) n cap) n (xs.set j u) := by
  rcases h with ⟨h1, ⟨h2, _⟩ | ⟨g', cap', cur, h2, h3, h4, h5, h6, h7, h8⟩⟩
  · injection h2 with h2; cases h2
  · injection h2 with ha hn hc
    injection ha with ha
    injection ha with ha
    subst ha hc
    refine ⟨by rw [List.length_set]; exact h1, Or.inr ⟨g, cap, _, rfl, h3, Go.heap_setCell_same _ _ _ _ _ _ h4, h5, h6, by rw [Array.size_setIfInBounds]; exact h7, ?_⟩⟩
    rw [← h8]
    simp [List.take_set]
theorem own_free {w : World} {B : Nat} {t : TypeId} {size g n cap : Nat} {xs : List Value} (h : w.ownsRow B t size (.slice (some ⟨g, 0, none⟩) n cap) n xs) (j : Nat) : w.frozen? ⟨g, j, none⟩ = false := by
  rcases h with ⟨_, ⟨h2, _⟩ | ⟨g', cap', cur, h2, _, h4, _⟩⟩
  · injection h2 with h2; cases h2
  · injection h2 with ha hn hc
    injection ha with ha
    injection ha with ha
    subst ha
    exact Go.frozen_of_row _ _ _ _ _ h4
theorem cell_setB {W : World} {h D b j : Nat} {v : Value} (hne : b ≠ h) : (W.setCell ⟨h, D, none⟩ v).cell? ⟨b, j, none⟩ = W.cell? ⟨b, j, none⟩ := by
  unfold World.cell?
  rw [Below.heap_setCell _ _ _ _ hne]
/-- Only the named blocks may have turned. -/
def Ch (ks : Nat → Prop) (W W' : World) : Prop := W'.os = W.os ∧ W'.tape = W.tape ∧ W'.output = W.output ∧ W.heap.size ≤ W'.heap.size ∧ ∀ k, k < W.heap.size → ¬ ks k → W'.heap[k]? = W.heap[k]?
theorem Ch.of_below {ks : Nat → Prop} {W W' : World} (h : Below W.heap.size W W') : Ch ks W W' := ⟨h.os, h.tape, h.output, h.size, fun k hk _ => h.block k hk⟩
theorem Ch.trans {ks : Nat → Prop} {A B C : World} (h : Ch ks A B) (h' : Ch ks B C) : Ch ks A C := by
  obtain ⟨a1, a2, a3, a4, a5⟩ := h
  obtain ⟨b1, b2, b3, b4, b5⟩ := h'
  exact ⟨b1.trans a1, b2.trans a2, b3.trans a3, Nat.le_trans a4 b4, fun k hk hn => (b5 k (by omega) hn).trans (a5 k hk hn)⟩
theorem Ch.set {ks : Nat → Prop} (W : World) (p : Addr) (v : Value) (h : ks p.block) : Ch ks W (W.setCell p v) := ⟨rfl, rfl, rfl, by rw [World.size_setCell]; exact Nat.le_refl _, fun k _ hn => Below.heap_setCell _ _ _ _ (fun e => hn (by rw [e]; exact h))⟩
theorem Ch.of_grown {ks : Nat → Prop} {W W' : World} {row : Option Nat} (h : W.grownBy W' row) (hr : ∀ r, row = some r → ks r) : Ch ks W W' := ⟨h.os, h.tape, h.output, h.size, fun k hk hn => h.block k hk (fun e => hn (hr k e.symm))⟩
theorem Ch.below {ks : Nat → Prop} {W W' : World} {B : Nat} (h : Ch ks W W') (hB : B ≤ W.heap.size) (hk : ∀ k, ks k → B ≤ k) : Below B W W' := ⟨h.1, h.2.1, h.2.2.1, h.2.2.2.1, fun k hlt => h.2.2.2.2 k (by omega) (fun e => by have := hk k e; omega)⟩
theorem Ch.put {ks : Nat → Prop} {A W : World} (h : Ch ks A W) (g j : Nat) (u : Value) (hk : ks g) : Ch ks A (W.setCell ⟨g, j, none⟩ u) := h.trans (Ch.set W ⟨g, j, none⟩ u hk)
theorem Ch.setNew {ks : Nat → Prop} {W W' : World} (h : Ch ks W W') (p : Addr) (u : Value) (hp : W.heap.size ≤ p.block) : Ch ks W (W'.setCell p u) := by
  obtain ⟨h1, h2, h3, h4, h5⟩ := h
  exact ⟨h1, h2, h3, by rw [World.size_setCell]; exact h4, fun k hk hn => (Below.heap_setCell _ _ _ _ (by omega)).trans (h5 k hk hn)⟩



theorem ownI_of {w w' : World} {B : Nat} {v : Value} {l : List Int} (h : OwnI w B v l) (hb : ∀ g, v.ownBlock = some g → w'.heap[g]? = w.heap[g]?) : OwnI w' B v l := by
  rcases h with ⟨h1, ⟨rfl, h2⟩ | ⟨g, cap, cur, rfl, h3, h4, h5⟩⟩
  · exact ⟨h1, Or.inl ⟨rfl, h2⟩⟩
  · exact ⟨h1, Or.inr ⟨g, cap, cur, rfl, h3, by rw [hb g rfl]; exact h4, h5⟩⟩
theorem ownI_lt {w : World} {B g : Nat} {v : Value} {l : List Int} (h : OwnI w B v l) (hg : v.ownBlock = some g) : B ≤ g ∧ g < w.heap.size := World.ownsRow.lt (show w.ownsRow B 2 1 v l.length (iv l) from h) g hg
theorem ownI_ch {ks : Nat → Prop} {w w' : World} {B : Nat} {v : Value} {l : List Int} (h : OwnI w B v l) (hc : Ch ks w w') (hk : ∀ g, v.ownBlock = some g → ¬ ks g) : OwnI w' B v l := ownI_of h (fun g hg => hc.2.2.2.2 g (ownI_lt h hg).2 (hk g hg))
theorem own_base2 {w : World} {B : Nat} {v : Value} {l : List Int} (h : OwnI w B v l) : ∃ a c, v = .slice a l.length c := by
  rcases ownI_form h with ⟨rfl, rfl⟩ | ⟨g, cap, rfl, _⟩
  · exact ⟨_, _, rfl⟩
  · exact ⟨_, _, rfl⟩
theorem NRow_ch {ks : Nat → Prop} {w w' : World} {a : Option Addr} {l : List Int} (h : NRow w a l) (hc : Ch ks w w') (hk : ∀ b off, a = some ⟨b, off, none⟩ → ¬ ks b) : NRow w' a l := fun i hi => by
  obtain ⟨b, off, e, h0⟩ := h i hi
  have hlt : b < w.heap.size := World.block_lt_of_cell? w _ h0
  exact ⟨b, off, e, by rw [World.cell?_of_block (w := w) (hc.2.2.2.2 b hlt (hk b off e))]; exact h0⟩
/-- The marks so far. -/
def msL (m : Int) (k : Nat) (l : List Int) : List Int := List.replicate k m ++ l.drop k
theorem msL_len (m : Int) (k : Nat) (l : List Int) (h : k ≤ l.length) : (msL m k l).length = l.length := by unfold msL; rw [List.length_append, List.length_replicate, List.length_drop]; omega
theorem msL_step (m : Int) (k : Nat) (l : List Int) (h : k < l.length) : (msL m k l).set k m = msL m (k + 1) l := by
  unfold msL
  rw [List.set_append_right _ _ (by simp), List.length_replicate, Nat.sub_self, List.drop_eq_getElem_cons h, List.set_cons_zero, List.replicate_succ']
  simp
theorem msL_end (m : Int) (l : List Int) : msL m l.length l = List.replicate l.length m := by unfold msL; rw [List.drop_length, List.append_nil]
theorem iv_set (l : List Int) (k : Nat) (m : Int) : (iv l).set k (.int .i64 m) = iv (l.set k m) := by simp [iv, List.map_set]
theorem ownI_set {w : World} {B g cap : Nat} {l : List Int} (h : OwnI w B (.slice (some ⟨g, 0, none⟩) l.length cap) l) (k : Nat) (m : Int) : OwnI (w.setCell ⟨g, k, none⟩ (.int .i64 m)) B (.slice (some ⟨g, 0, none⟩) l.length cap) (l.set k m) := by
  have := own_setAt (show w.ownsRow B 2 1 _ l.length (iv l) from h) k (.int .i64 m)
  unfold OwnI
  rw [iv_set, List.length_set] at *
  exact this
/-- One more, the marks kept. -/
theorem moreI_any (w : World) (B : Nat) (v : Value) (m : Int) (n g : Nat) (hown : OwnI w B v (List.replicate n m)) (hg : w.heap[g]? = some (.cells #[.int .i64 m] 2 (0, 0))) (hB : B ≤ w.heap.size) (hn : n ≤ 4294967296) :
    ∃ v' w', (Builtin.append_ #[35, 35] 35 #[v, .slice (some ⟨g, 0, none⟩) 1 1]).run Try.prog w = .ok v' w' ∧ ((∃ a c, v = .slice a n c ∧ NRow w' a (List.replicate n m)) ∧ (∃ a c, v' = .slice a (n + 1) c ∧ NRow w' a (List.replicate (n + 1) m))) ∧ w.grownBy w' v.ownBlock ∧ (v'.ownBlock = v.ownBlock ∨ v'.ownBlock = some w.heap.size) := by
  obtain ⟨i0, hi, hz0, hz1, hz2⟩ := info_parts info_i64
  have hrl : (List.replicate n m).length = n := List.length_replicate
  obtain ⟨v', w', hr, h2, h3, h4, h5⟩ := append_both (P := Try.prog) w B 35 35 2 i0 _ 1 8 Try.underlying35 hi hz0 hz1 hz2 rfl (by decide) v (List.replicate n m).length (iv (List.replicate n m)) hown ⟨g, 0, none⟩ 1 1 (iv [m]) rfl (World.news_of_block hg) (iv_one _) (by decide) (by rw [hrl]; unfold maxLen; omega) (by rw [hrl]; omega) hB
  refine ⟨v', w', hr, ⟨?_, ?_⟩, h3, h5⟩
  · rcases ownI_form hown with ⟨rfl, h0⟩ | ⟨g', cap, rfl, _⟩
    · have : n = 0 := by rw [← hrl, h0]; rfl
      subst this
      exact ⟨none, 0, rfl, fun i hi => by simp at hi⟩
    · refine ⟨some ⟨g', 0, none⟩, cap, by rw [hrl], fun i hi => ⟨g', 0, rfl, ?_⟩⟩
      rw [Nat.zero_add]
      exact h4 g' cap rfl i _ (by
        have hi' : i < n := by rw [hrl] at hi; exact hi
        simp [iv, hi'])
  · have ho' : OwnI w' B v' (List.replicate (n + 1) m) := by
      unfold OwnI
      rw [List.replicate_succ', iv_app, List.length_append]
      exact h2
    obtain ⟨a, c, rfl⟩ := own_base2 ho'
    exact ⟨a, c, by rw [List.length_replicate], (ownI_row ho').1⟩
/-- A row of slices of the call's own. -/
def OwnB (W : World) (B : Nat) (v : Value) (l : List Value) : Prop := W.ownsRow B 35 1 v l.length l
theorem info_sl : (Try.prog.info? 35).map (fun i => (i.zero, i.size, i.bytes)) = some (some (.slice none 0 0), 1, 24) := by kernel_rfl
theorem ownB_of {w w' : World} {B : Nat} {v : Value} {l : List Value} (h : OwnB w B v l) (hb : ∀ g, v.ownBlock = some g → w'.heap[g]? = w.heap[g]?) : OwnB w' B v l := by
  rcases h with ⟨h1, ⟨rfl, h2⟩ | ⟨g, cap, cur, rfl, h3, h4, h5⟩⟩
  · exact ⟨h1, Or.inl ⟨rfl, h2⟩⟩
  · exact ⟨h1, Or.inr ⟨g, cap, cur, rfl, h3, by rw [hb g rfl]; exact h4, h5⟩⟩
theorem ownB_lt {w : World} {B g : Nat} {v : Value} {l : List Value} (h : OwnB w B v l) (hg : v.ownBlock = some g) : B ≤ g ∧ g < w.heap.size := World.ownsRow.lt (show w.ownsRow B 35 1 v l.length l from h) g hg
theorem ownB_any {w : World} {B : Nat} {v : Value} {l : List Value} (h : OwnB w B v l) : ∃ a c, v = .slice a l.length c ∧ ∀ i (hi : i < l.length), ∃ b, a = some ⟨b, 0, none⟩ ∧ w.cell? ⟨b, i, none⟩ = some l[i] := by
  have h0 := h
  rcases h.2 with ⟨rfl, hn⟩ | ⟨g, cap, cur, rfl, _⟩
  · have hl : l = [] := List.eq_nil_of_length_eq_zero hn
    subst hl
    exact ⟨none, 0, rfl, fun i hi => by simp at hi⟩
  · refine ⟨_, _, rfl, fun i hi => ⟨g, rfl, ?_⟩⟩
    have hc := World.ownsRow.cellAt (show w.ownsRow B 35 1 _ l.length l from h0) i (by omega)
    rw [hc, List.getElem?_eq_getElem hi]
/-- A list that is kept: what it is, its mark, its length. -/
abbrev KE := Value × Int × Nat
def kb (bs : List KE) : List Value := bs.map (fun x : KE => x.1)
def EK (W : World) (x : KE) : Prop := (∃ a c, x.1 = .slice a x.2.2 c ∧ NRow W a (List.replicate x.2.2 x.2.1)) ∧ (∀ g, x.1.ownBlock = some g → g < W.heap.size) ∧ x.2.2 ≤ 8388608
theorem EK.ch {ks : Nat → Prop} {W W' : World} {x : KE} (h : EK W x) (hc : Ch ks W W') (hk : ∀ g, x.1.ownBlock = some g → ¬ ks g) : EK W' x := by
  obtain ⟨⟨a, c, e, r⟩, h1, h2⟩ := h
  exact ⟨⟨a, c, e, NRow_ch r hc (fun b off e' => hk b (by rw [e, e']; rfl))⟩, fun g hg => Nat.lt_of_lt_of_le (h1 g hg) hc.2.2.2.1, h2⟩
def mkI (n : Nat) : Int := (n : Int) + 1000000
/-- The book of what is kept. -/
structure KB (W : World) (B : Nat) (bv : Value) (bs : List KE) : Prop where
  book : OwnB W B bv (kb bs)
  all : ∀ x ∈ bs, EK W x ∧ ∀ g, x.1.ownBlock = some g → bv.ownBlock ≠ some g
  mrk : ∀ i (h : i < bs.length), bs[i].2.1 = mkI (i / 2)
theorem KB.ch {ks : Nat → Prop} {W W' : World} {B : Nat} {bv : Value} {bs : List KE} (h : KB W B bv bs) (hc : Ch ks W W') (h1 : ∀ g, bv.ownBlock = some g → ¬ ks g) (h3 : ∀ x ∈ bs, ∀ g, x.1.ownBlock = some g → ¬ ks g) : KB W' B bv bs :=
  ⟨ownB_of h.book (fun g hg => hc.2.2.2.2 g (ownB_lt h.book hg).2 (h1 g hg)), fun x hx => ⟨(h.all x hx).1.ch hc (h3 x hx), (h.all x hx).2⟩, h.mrk⟩
theorem KB.below {W W' : World} {B : Nat} {bv : Value} {bs : List KE} (h : KB W B bv bs) (hb : Below W.heap.size W W') : KB W' B bv bs := h.ch (ks := fun _ => False) (Ch.of_below hb) (fun _ _ q => q) (fun _ _ _ _ q => q)
theorem kb_nil (W : World) (B : Nat) : KB W B (.slice none 0 0) [] := ⟨⟨rfl, Or.inl ⟨rfl, rfl⟩⟩, fun x hx => (by cases hx), fun i h => (by cases h)⟩
def Free (bv : Value) (bs : List KE) (g : Nat) : Prop := bv.ownBlock ≠ some g ∧ ∀ x ∈ bs, x.1.ownBlock ≠ some g
theorem KB.free {W : World} {B : Nat} {bv : Value} {bs : List KE} (h : KB W B bv bs) {g : Nat} (hg : W.heap.size ≤ g) : Free bv bs g :=
  ⟨fun e => by have := (ownB_lt h.book e).2; omega, fun x hx e => by have := (h.all x hx).1.2.1 g e; omega⟩
theorem mrk_snoc {bs : List KE} {t : Nat} (h : ∀ i (h : i < bs.length), bs[i].2.1 = mkI (i / 2)) (hl : bs.length = 2 * t) (l more : Value) (n : Nat) : ∀ i (h : i < (bs ++ [(l, mkI t, n), (more, mkI t, n + 1)]).length), (bs ++ [(l, mkI t, n), (more, mkI t, n + 1)])[i].2.1 = mkI (i / 2) := by
  intro i hi
  by_cases q : i < bs.length
  · rw [List.getElem_append_left q]
    exact h i q
  · rw [List.getElem_append_right (by omega)]
    rw [List.length_append] at hi
    have hi' : i < bs.length + 2 := hi
    have e : i = bs.length ∨ i = bs.length + 1 := by omega
    rcases e with rfl | rfl
    · simp only [Nat.sub_self, List.getElem_cons_zero]
      congr 1
      omega
    · have e2 : bs.length + 1 - bs.length = 1 := by omega
      simp only [e2, List.getElem_cons_succ, List.getElem_cons_zero]
      congr 1
      omega
/-- A list, full of marks, is kept: two appends. -/
theorem keep_two {W : World} {B Bl t n : Nat} {l bv : Value} {bs : List KE} (hl : OwnI W Bl l (List.replicate n (mkI t))) (hK : KB W B bv bs) (hF : ∀ g, l.ownBlock = some g → Free bv bs g) (hlen : bs.length = 2 * t) (ht : t ≤ 2000) (hn : n ≤ 8388607) (hB : B ≤ W.heap.size) (hBl : Bl ≤ W.heap.size) :
    ∃ more W2 bv' W4,
      (Builtin.append_ #[35, 35] 35 #[l, .slice (some ⟨W.heap.size, 0, none⟩) 1 1]).run Try.prog (W.alloc (.cells #[.int .i64 (mkI t)] 2)) = .ok more W2 ∧
      (Builtin.append_ #[33, 33] 33 #[bv, .slice (some ⟨W2.heap.size, 0, none⟩) 2 2]).run Try.prog (W2.alloc (.cells #[l, more] 35)) = .ok bv' W4 ∧
      (∃ a c, more = .slice a (n + 1) c) ∧ Ch (fun g => l.ownBlock = some g) W W2 ∧
      KB W4 B bv' (bs ++ [(l, mkI t, n), (more, mkI t, n + 1)]) ∧ Ch (fun g => l.ownBlock = some g ∨ bv.ownBlock = some g) W W4 ∧
      (∀ g, g < W.heap.size → l.ownBlock ≠ some g → Free bv bs g → Free bv' (bs ++ [(l, mkI t, n), (more, mkI t, n + 1)]) g) := by
  obtain ⟨W1, hW1⟩ : ∃ W1, W.alloc (.cells #[.int .i64 (mkI t)] 2) = W1 := ⟨_, rfl⟩
  have hb1 : Below W.heap.size W W1 := by rw [← hW1]; exact (Below.refl _ _).alloc (Nat.le_refl _) _
  have hs1 : W1.heap.size = W.heap.size + 1 := by rw [← hW1]; simp
  have hg1 : W1.heap[W.heap.size]? = some (.cells #[.int .i64 (mkI t)] 2 (0, 0)) := by rw [← hW1]; exact hp_new _ _
  obtain ⟨more, W2, hr1, hM2, hgr2, hob2⟩ := moreI_any W1 Bl l (mkI t) n W.heap.size (ownI_below hl hb1) hg1 (by omega) (by omega)
  have hc2 : Ch (fun g => l.ownBlock = some g) W1 W2 := Ch.of_grown hgr2 (fun r hr => hr)
  have hs2 : W1.heap.size ≤ W2.heap.size := hc2.2.2.2.1
  have hlb : ∀ g, l.ownBlock = some g → g < W.heap.size := fun g hg => (ownI_lt hl hg).2
  have hK2 : KB W2 B bv bs := (hK.below hb1).ch hc2 (fun g hg q => (hF g q).1 hg) (fun x hx g hg q => (hF g q).2 x hx hg)
  obtain ⟨⟨la, lc, hle, hlr⟩, ⟨ma, mc, hme, hmr⟩⟩ := hM2
  have hmb : ∀ g, more.ownBlock = some g → l.ownBlock = some g ∨ g = W1.heap.size := fun g hg => by
    rcases hob2 with q | q
    · rw [q] at hg; exact Or.inl hg
    · rw [q] at hg; injection hg with hg; exact Or.inr hg.symm
  have hml : ∀ g, more.ownBlock = some g → g < W2.heap.size := fun g hg => by
    obtain ⟨b, off, e, hc⟩ := hmr 0 (by rw [List.length_replicate]; omega)
    rw [hme, e] at hg
    injection hg with hg
    replace hg : b = g := hg
    subst hg
    exact World.block_lt_of_cell? W2 _ hc
  obtain ⟨W3, hW3⟩ : ∃ W3, W2.alloc (.cells #[l, more] 35) = W3 := ⟨_, rfl⟩
  have hb3 : Below W2.heap.size W2 W3 := by rw [← hW3]; exact (Below.refl _ _).alloc (Nat.le_refl _) _
  have hs3 : W3.heap.size = W2.heap.size + 1 := by rw [← hW3]; simp
  have hg3 : W3.heap[W2.heap.size]? = some (.cells [l, more].toArray 35 (0, 0)) := by rw [← hW3]; exact hp_new _ _
  have hK3 : KB W3 B bv bs := hK2.below hb3
  obtain ⟨i0, hi, hz0, hz1, hz2⟩ := info_parts info_sl
  have hone : ∀ u ∈ [l, more], u.oneCell' = true := by
    intro u hu
    simp at hu
    rcases hu with rfl | rfl
    · rw [hle]; rfl
    · rw [hme]; rfl
  have hbl : (kb bs).length = bs.length := List.length_map _
  obtain ⟨gb, capb, W4, hr2, hO4, hgr4, hv4, _⟩ := run_append_lies (P := Try.prog) W3 33 33 B 35 i0 _ 1 24 Try.underlying33 hi hz0 hz1 hz2 rfl (by decide) bv (kb bs).length (kb bs) hK3.book ⟨W2.heap.size, 0, none⟩ 2 2 [l, more] rfl (by simpa using World.news_of_block hg3) hone (by decide) (by rw [hbl]; unfold maxLen; omega) (by rw [hbl]; omega) (by omega) W3.heap.size rfl
  have hc4 : Ch (fun g => bv.ownBlock = some g) W3 W4 := Ch.of_grown hgr4 (fun r hr => hr)
  have hs4 : W3.heap.size ≤ W4.heap.size := hc4.2.2.2.1
  have hbvW : ∀ g, bv.ownBlock = some g → g < W.heap.size := fun g hg => (ownB_lt hK.book hg).2
  have hgb : ∀ g, (Value.slice (some ⟨gb, 0, none⟩) ((kb bs).length + 2) capb).ownBlock = some g → bv.ownBlock = some g ∨ g = W3.heap.size := fun g hg => by
    have e : gb = g := by simpa [Value.ownBlock] using hg
    subst e
    exact hv4
  have hlW3 : EK W3 (l, mkI t, n) := ⟨⟨la, lc, hle, NRow_ch hlr (Ch.of_below (ks := fun _ => False) hb3) (fun _ _ _ q => q)⟩, fun g hg => by have := hlb g hg; omega, by show n ≤ 8388608; omega⟩
  have hmW3 : EK W3 (more, mkI t, n + 1) := ⟨⟨ma, mc, hme, NRow_ch hmr (Ch.of_below (ks := fun _ => False) hb3) (fun _ _ _ q => q)⟩, fun g hg => by have := hml g hg; omega, by show n + 1 ≤ 8388608; omega⟩
  have hla : ∀ g, l.ownBlock = some g → bv.ownBlock ≠ some g := fun g hg => (hF g hg).1
  have hma : ∀ g, more.ownBlock = some g → bv.ownBlock ≠ some g := fun g hg => by
    rcases hmb g hg with q | q
    · exact hla g q
    · exact fun e => by have := hbvW g e; omega
  have ek4 : ∀ x : KE, EK W3 x → (∀ g, x.1.ownBlock = some g → bv.ownBlock ≠ some g) → EK W4 x := fun x hx ha => hx.ch hc4 (fun g hg q => ha g hg q)
  have ap4 : ∀ x : KE, (∀ g, x.1.ownBlock = some g → g < W3.heap.size) → (∀ g, x.1.ownBlock = some g → bv.ownBlock ≠ some g) → ∀ g, x.1.ownBlock = some g → (Value.slice (some ⟨gb, 0, none⟩) ((kb bs).length + 2) capb).ownBlock ≠ some g := fun x hl ha g hg e => by
    have h3 := hl g hg
    rcases hgb g e with q | q
    · exact ha g hg q
    · omega
  have h4 : OwnB W4 B (.slice (some ⟨gb, 0, none⟩) ((kb bs).length + 2) capb) (kb (bs ++ [(l, mkI t, n), (more, mkI t, n + 1)])) := by
    unfold OwnB kb
    rw [List.map_append, List.length_append]
    exact hO4
  have wk : ∀ {ks ks' : Nat → Prop} {A C : World}, Ch ks A C → (∀ g, ks g → ks' g) → Ch ks' A C := fun h hi => ⟨h.1, h.2.1, h.2.2.1, h.2.2.2.1, fun k hk hn => h.2.2.2.2 k hk (fun q => hn (hi k q))⟩
  refine ⟨more, W2, _, W4, by rw [hW1]; exact hr1, by rw [hW3]; exact hr2, ⟨ma, mc, hme⟩, (Ch.of_below hb1).trans hc2, ⟨h4, fun x hx => ?_, mrk_snoc hK.mrk hlen _ _ _⟩, ?_, ?_⟩
  · rcases List.mem_append.1 hx with hx | hx
    · exact ⟨ek4 x (hK3.all x hx).1 (hK3.all x hx).2, ap4 x (hK3.all x hx).1.2.1 (hK3.all x hx).2⟩
    · simp at hx
      rcases hx with rfl | rfl
      · exact ⟨ek4 _ hlW3 hla, ap4 _ hlW3.2.1 hla⟩
      · exact ⟨ek4 _ hmW3 hma, ap4 _ hmW3.2.1 hma⟩
  · exact (((Ch.of_below hb1).trans (wk hc2 (fun g q => Or.inl q))).trans (Ch.of_below hb3)).trans (wk hc4 (fun g q => Or.inr q))
  · intro g hg hl' hf
    refine ⟨fun e => ?_, fun x hx e => ?_⟩
    · rcases hgb g e with q | q
      · exact hf.1 q
      · omega
    · rcases List.mem_append.1 hx with hx | hx
      · exact hf.2 x hx e
      · simp at hx
        rcases hx with rfl | rfl
        · exact hl' e
        · rcases hmb g e with q | q
          · exact hl' q
          · omega
end Pk
end Go.Proofs.Ytdbhcemmaahemaa
