import Derived.Test.YtgfonnjblbpogaaRows
import Derived.Laws.BitsLemmas
import Derived.Test.YtgfonnjblbpogaaBytes
import Derived.Deep.AppendLies
import Derived.Great.BuildSlice
import Derived.BigQuiet
import Derived.KernelRfl
import Derived.Test.YtgfonnjblbpogaaBwF
import Derived.Test.YtgfonnjblbpogaaBwWr
import Derived.Test.YtgfonnjblbpogaaBRefWhole
import Derived.Lib.AppendZeros
import Derived.Deep.DeepCutAuto
import Derived.Deep.RegionHeld3
import Derived.Deep.RegionHeldLaw
namespace Go.Proofs.Ytgfonnjblbpogaa
namespace BnI
open Go.RowKit Go.Lib
set_option linter.unusedVariables false
set_option maxRecDepth 100000

theorem add_off (b o j : Nat) : (⟨b, o, none⟩ : Addr).add j = ⟨b, o + j, none⟩ := by
  unfold Addr.add
  by_cases h : j = 0
  · subst h; rfl
  · simp [h]
/-- Numbers as cells. -/
def iv (l : List Int) : List Value := l.map (Value.int .i64)
theorem iv_len (l : List Int) : (iv l).length = l.length := by simp [iv]
theorem iv_app (l k : List Int) : iv (l ++ k) = iv l ++ iv k := by simp [iv]
theorem iv_one (l : List Int) : ∀ u ∈ iv l, u.oneCell' = true := by
  intro u hu
  simp only [iv, List.mem_map] at hu
  obtain ⟨b, _, rfl⟩ := hu
  rfl
theorem info_i64 : (Try.prog.info? 3).map (fun i => (i.zero, i.size, i.bytes)) = some (some (.int .i64 0), 1, 8) := by kernel_rfl
/-- A list of numbers of the call's own. -/
def OwnI (W : World) (B : Nat) (v : Value) (l : List Int) : Prop := W.ownsRow B 3 1 v l.length (iv l)
theorem ownI_nil (W : World) (B : Nat) : OwnI W B (.slice none 0 0) [] := ⟨rfl, Or.inl ⟨rfl, rfl⟩⟩
theorem ownI_base {w : World} {B C : Nat} {v : Value} {l : List Int} (h : OwnI w B v l) (hc : C ≤ B) : OwnI w C v l := by
  rcases h with ⟨h1, ⟨rfl, h2⟩ | ⟨g, cap, cur, rfl, h3, h4⟩⟩
  · exact ⟨h1, Or.inl ⟨rfl, h2⟩⟩
  · exact ⟨h1, Or.inr ⟨g, cap, cur, rfl, Nat.le_trans hc h3, h4⟩⟩
theorem ownI_below {w w' : World} {B : Nat} {v : Value} {l : List Int} (h : OwnI w B v l) (hb : Below w.heap.size w w') : OwnI w' B v l := by
  rcases h with ⟨h1, ⟨rfl, h2⟩ | ⟨g, cap, cur, rfl, h3, h4, h5⟩⟩
  · exact ⟨h1, Or.inl ⟨rfl, h2⟩⟩
  · have hg : g < w.heap.size := (Array.getElem?_eq_some_iff.1 h4).1
    exact ⟨h1, Or.inr ⟨g, cap, cur, rfl, h3, by rw [hb.block g hg]; exact h4, h5⟩⟩
theorem ownI_form {w : World} {B : Nat} {v : Value} {l : List Int} (h : OwnI w B v l) : (v = .slice none 0 0 ∧ l = []) ∨ (∃ g cap, v = .slice (some ⟨g, 0, none⟩) l.length cap ∧ l.length ≤ cap ∧ cap ≤ maxLen ∧ g < w.heap.size ∧ B ≤ g) := by
  have hl := h.1
  rcases h.2 with ⟨rfl, hn⟩ | ⟨g, cap, cur, rfl, h3, h4, h5, h6, _⟩
  · exact Or.inl ⟨rfl, List.eq_nil_of_length_eq_zero hn⟩
  · exact Or.inr ⟨g, cap, rfl, h5, h6, (Array.getElem?_eq_some_iff.1 h4).1, h3⟩
theorem ownI_cell {w : World} {B g cap : Nat} {l : List Int} (h : OwnI w B (.slice (some ⟨g, 0, none⟩) l.length cap) l) (i : Nat) (hi : i < l.length) : w.cell? ⟨g, i, none⟩ = some (.int .i64 l[i]) := by
  have hc := World.ownsRow.cellAt (show w.ownsRow B 3 1 _ l.length (iv l) from h) i (by omega)
  rw [hc]
  simp [iv, hi]
/-- A row of numbers, wherever it lies. -/
def NRow (w : World) (a : Option Addr) (l : List Int) : Prop := ∀ i (hi : i < l.length), ∃ b off, a = some ⟨b, off, none⟩ ∧ w.cell? ⟨b, off + i, none⟩ = some (.int .i64 l[i])
theorem NRow.below {w w' : World} {a : Option Addr} {l : List Int} (h : NRow w a l) (hb : Below w.heap.size w w') : NRow w' a l := fun i hi => by
  obtain ⟨b, off, e, h1⟩ := h i hi
  refine ⟨b, off, e, ?_⟩
  rw [hb.cell (World.block_lt_of_cell? w _ h1)]
  exact h1
theorem NRow.of_block {w w' : World} {a : Option Addr} {l : List Int} (h : NRow w a l) (hb : ∀ g, a.map Addr.block = some g → g < w.heap.size → w'.heap[g]? = w.heap[g]?) : NRow w' a l := fun i hi => by
  obtain ⟨b, off, e, h1⟩ := h i hi
  refine ⟨b, off, e, ?_⟩
  rw [World.cell?_of_block (w := w) (hb b (by rw [e]; rfl) (World.block_lt_of_cell? w _ h1))]
  exact h1
theorem NRow.drewN {w : World} {a : Option Addr} {l : List Int} (h : NRow w a l) (k : Nat) : NRow (w.drewN k) a l := fun i hi => by
  obtain ⟨b, off, e, h1⟩ := h i hi
  exact ⟨b, off, e, h1⟩
theorem NRow.nil (w : World) (a : Option Addr) : NRow w a [] := fun i hi => by simp at hi
theorem ownI_row {w : World} {B n c : Nat} {a : Option Addr} {l : List Int} (h : OwnI w B (.slice a n c) l) : NRow w a l ∧ n = l.length := by
  rcases ownI_form h with ⟨h1, rfl⟩ | ⟨g, cap, h1, _⟩
  · injection h1 with h1 h2
    exact ⟨NRow.nil _ _, h2⟩
  · injection h1 with h1 h2 h3
    subst h1 h2 h3
    exact ⟨fun i hi => ⟨g, 0, rfl, by rw [Nat.zero_add]; exact ownI_cell h i hi⟩, rfl⟩
theorem ownI_slice {w : World} {B : Nat} {v : Value} {l : List Int} (h : OwnI w B v l) : ∃ a n c, v = .slice a n c := by
  rcases ownI_form h with ⟨h1, _⟩ | ⟨g, cap, h1, _⟩
  · exact ⟨_, _, _, h1⟩
  · exact ⟨_, _, _, h1⟩
/-- A row appended to a row of the call's own. -/
theorem appendI_row (w : World) (B : Nat) (v : Value) (l k : List Int) (a : Option Addr) (n c : Nat) (hown : OwnI w B v l) (hk : NRow w a k) (hn : n = k.length) (hB : B ≤ w.heap.size) (hsz : (l.length + k.length) * 8 ≤ 140737488355328) :
    ∃ v' w', (Builtin.append_ #[34, 34] 34 #[v, .slice a n c]).run Try.prog w = .ok v' w' ∧ OwnI w' B v' (l ++ k) ∧ Below B w w' := by
  subst hn
  obtain ⟨i0, hi, hz0, hz1, hz2⟩ := info_parts info_i64
  by_cases h0 : k.length = 0
  · have hk0 := List.eq_nil_of_length_eq_zero h0
    subst hk0
    refine ⟨v, w, ?_, by rw [List.append_nil]; exact hown, Below.refl _ _⟩
    cases a with
    | none =>
      rcases ownI_form hown with ⟨rfl, rfl⟩ | ⟨g, cap, rfl, hc, _⟩
      · simp [Builtin.append_, run_underlying Try.underlying34, sizeOf, typeInfo, hi, Builtin.lenOf, Builtin.firstCells]
      · simp [Builtin.append_, run_underlying Try.underlying34, sizeOf, typeInfo, hi, Builtin.lenOf, Builtin.firstCells, hc, storeCells]
    | some d =>
      rcases ownI_form hown with ⟨rfl, rfl⟩ | ⟨g, cap, rfl, hc, _⟩
      · simp [Builtin.append_, run_underlying Try.underlying34, sizeOf, typeInfo, hi, Builtin.lenOf, Builtin.firstCells, loadCells, loadCellsFrom]
      · simp [Builtin.append_, run_underlying Try.underlying34, sizeOf, typeInfo, hi, Builtin.lenOf, Builtin.firstCells, loadCells, loadCellsFrom, hc, storeCells]
  · obtain ⟨b, off, rfl, _⟩ := hk 0 (by omega)
    have hnews : ∀ j u, (iv k)[j]? = some u → w.cell? ((⟨b, off, none⟩ : Addr).add j) = some u := by
      intro j u hj
      have hjn : j < k.length := by
        rcases Nat.lt_or_ge j k.length with h' | h'
        · exact h'
        · rw [List.getElem?_eq_none (by rw [iv_len]; exact h')] at hj; cases hj
      obtain ⟨b', off', e, hc⟩ := hk j hjn
      injection e with e
      injection e with e1 e2
      subst e1 e2
      rw [add_off, hc, ← hj]
      simp [iv, hjn]
    obtain ⟨g, cap, w', hr, h2, h3, _, _⟩ := run_append_lies (P := Try.prog) w 34 34 B 3 i0 _ 1 8 Try.underlying34 hi hz0 hz1 hz2 rfl (by decide) v l.length (iv l) hown ⟨b, off, none⟩ k.length c (iv k) (by rw [iv_len, Nat.mul_one]) hnews (iv_one _) (by omega) (by unfold maxLen; omega) hsz hB w.heap.size rfl
    refine ⟨_, w', hr, ?_, (Below.refl _ _).grown h3 hB (fun j hj => (World.ownsRow.lt (show w.ownsRow B 3 1 v l.length (iv l) from hown) _ hj).1)⟩
    unfold OwnI
    rw [iv_app, List.length_append]
    exact h2
/-- A row of literal numbers. -/
theorem lit_row (W : World) (L : List Int) (t : TypeId) : NRow (W.alloc (.cells (iv L).toArray t)) (some ⟨W.heap.size, 0, none⟩) L := by
  intro i hi
  refine ⟨W.heap.size, 0, rfl, ?_⟩
  have h1 : (W.alloc (.cells (iv L).toArray t)).heap[W.heap.size]? = some (.cells (iv L).toArray t (0, 0)) := heap_alloc_new _ _
  simp [iv, hi, go_sem]
theorem lit_own (W : World) (x : Int) : OwnI (W.alloc (.cells #[.int .i64 x] 3)) W.heap.size (.slice (some ⟨W.heap.size, 0, none⟩) 1 1) [x] :=
  ⟨rfl, Or.inr ⟨W.heap.size, 1, #[.int .i64 x], rfl, Nat.le_refl _, heap_alloc_new W _, Nat.le_refl _, by unfold maxLen; omega, rfl, rfl⟩⟩
theorem i64_and3 (n : Int) : bits .and .i64 n 3 = n % 4 := by
  have h3 : (BitVec.ofInt 64 3).toNat = 2 ^ 2 - 1 := by decide
  have key : (BitVec.ofInt 64 n &&& BitVec.ofInt 64 3).toNat = (n % ((2 ^ 64 : Nat) : Int)).toNat % 2 ^ 2 := by
    rw [BitVec.toNat_and, BitVec.toNat_ofInt, h3, Nat.and_two_pow_sub_one_eq_mod]
  show IntKind.i64.wrap ((BitVec.ofInt 64 n &&& BitVec.ofInt 64 3).toNat : Nat) = n % 4
  rw [key, IntKind.wrap_i64]
  omega
end BnI
end Go.Proofs.Ytgfonnjblbpogaa

namespace Go.Proofs.Ytgfonnjblbpogaa
open Go.RowKit
open BerMath (Hd HR num hAt wAt El TR elEnd endE one andThen kids)
set_option linter.unusedVariables false

/-- An element in i others. -/
def nst (c : Nat) (inner : List UInt8) : Nat → List UInt8
  | 0 => hdrL c false 4 inner.length (ll inner.length) ++ inner
  | i + 1 => hdrL 0 true 16 (nst c inner i).length (ll (nst c inner i).length) ++ nst c inner i
theorem nst_zero_len (c : Nat) (inner : List UInt8) : (nst c inner 0).length = 2 + ll inner.length + inner.length := by
  show (hdrL _ _ _ _ _ ++ inner).length = _
  rw [List.length_append, hdrL_len]
theorem nst_succ_len (c : Nat) (inner : List UInt8) (i : Nat) : (nst c inner (i + 1)).length = 2 + ll (nst c inner i).length + (nst c inner i).length := by
  show (hdrL _ _ _ _ _ ++ nst c inner i).length = _
  rw [List.length_append, hdrL_len]
theorem nst_len (c : Nat) (inner : List UInt8) : ∀ i, (nst c inner i).length ≤ inner.length + 6 * (i + 1)
  | 0 => by
    have := ll_le inner.length
    rw [nst_zero_len]
    omega
  | i + 1 => by
    have h := nst_len c inner i
    have := ll_le (nst c inner i).length
    rw [nst_succ_len]
    omega
theorem nst_mono (c : Nat) (inner : List UInt8) : ∀ i j, j ≤ i → (nst c inner j).length ≤ (nst c inner i).length
  | 0, j, h => by rw [Nat.le_zero.1 h]; exact Nat.le_refl _
  | i + 1, j, h => by
    by_cases e : j = i + 1
    · rw [e]; exact Nat.le_refl _
    · have := nst_mono c inner i j (by omega)
      rw [nst_succ_len]
      omega
/-- The nodes of it. -/
def nsts (c : Nat) (inner : ByteArray) : Nat → Nat → List Nd
  | d, 0 => [⟨(d : Int), (c : Int), false, 4, inner⟩]
  | d, i + 1 => ⟨(d : Int), 0, true, 16, ⟨#[]⟩⟩ :: nsts c inner (d + 1) i
theorem nsts_len (c : Nat) (inner : ByteArray) : ∀ i d, (nsts c inner d i).length = i + 1
  | 0, d => rfl
  | i + 1, d => by show (nsts c inner (d + 1) i).length + 1 = _; rw [nsts_len c inner i]
theorem nsts_at (c : Nat) (inner : ByteArray) : ∀ i d j (h : j < (nsts c inner d i).length), (j < i → (nsts c inner d i)[j] = ⟨((d + j : Nat) : Int), 0, true, 16, ⟨#[]⟩⟩) ∧ (j = i → (nsts c inner d i)[j] = ⟨((d + j : Nat) : Int), (c : Int), false, 4, inner⟩)
  | 0, d, j, h => by
    rw [nsts_len] at h
    obtain rfl : j = 0 := by omega
    exact ⟨fun e => by omega, fun _ => rfl⟩
  | i + 1, d, 0, h => ⟨fun _ => rfl, fun e => by omega⟩
  | i + 1, d, j + 1, h => by
    have ih := nsts_at c inner i (d + 1) j (by rw [nsts_len] at h ⊢; omega)
    rw [show d + (j + 1) = d + 1 + j from by omega]
    exact ⟨fun e => ih.1 (by omega), fun e => ih.2 (by omega)⟩
theorem wAt_hdr (b : List UInt8) (p e c : Nat) (m : Bool) (t len : Nat) (rest : List UInt8) (hb : b.drop p = hdrL c m t len (ll len) ++ rest) (hc : c ≤ 3) (ht : t ≤ 30) (hl : len < 4294967296) (he : p + (2 + ll len) + len ≤ e) :
    wAt b p e = .ok ⟨c, m, t, len, 2 + ll len⟩ := by
  unfold wAt
  rw [hAt_shift b p e ⟨c, m, t, len, 2 + ll len⟩ (by omega) (by rw [hb]; exact hAt_hdr _ _ _ _ _ _ _ hc ht (says_wide len hl) (by omega))]
  dsimp only
  rw [if_neg (by omega)]
theorem lastE_cons (x : El) {ys : List El} (h : ys ≠ []) : lastE (x :: ys) = lastE ys := by
  cases ys with
  | nil => exact absurd rfl h
  | cons y ys =>
    unfold lastE
    rw [List.getLast?_cons_cons]
theorem lastE_one (x : El) : lastE [x] = elEnd x := rfl
theorem body_of (s inner : ByteArray) (q : Nat) (rest : List UInt8) (h : s.data.toList.drop q = inner.data.toList ++ rest) : s.extract q (q + inner.size) = inner := by
  have e2 : S (s.extract q (q + inner.size)).data.toList = S inner.data.toList := by
    congr 1
    rw [extr_b, List.drop_take, show q + inner.size - q = inner.size from by omega, h, ← size_l inner, List.take_left]
  rw [S_of, S_of] at e2
  exact e2
theorem ndOf_leaf (s inner : ByteArray) (p c d z : Nat) (rest : List UInt8) (h : s.data.toList.drop (p + z) = inner.data.toList ++ rest) : ndOf s (p, ⟨c, false, 4, inner.size, z⟩, d) = ⟨(d : Int), (c : Int), false, 4, inner⟩ := by
  unfold ndOf
  dsimp only
  rw [if_neg (by decide), body_of s inner (p + z) rest h]
  rfl
set_option maxHeartbeats 1000000 in
theorem one_nst (s : ByteArray) (c : Nat) (inner : ByteArray) (hc : c ≤ 3) (hi : inner.size ≤ 1048576) : ∀ (i p d f m e : Nat) (rest : List UInt8), i ≤ 200 → s.data.toList.drop p = nst c inner.data.toList i ++ rest → e = p + (nst c inner.data.toList i).length → e ≤ p + f + 2 → d ≤ 65 →
    (d + i ≤ 64 → ∃ xs, one s.data.toList (kids s.data.toList f) m e p d = (xs, none) ∧ xs ≠ [] ∧ endE xs = e ∧ lastE xs = e ∧ xs.map (ndOf s) = nsts c inner d i) ∧
    (64 < d + i → (one s.data.toList (kids s.data.toList f) m e p d).2 = some (25, e - (nst c inner.data.toList (i + d - 65)).length))
  | 0, p, d, f, m, e, rest, hn, hb, he, hf, hd => by
    have hsz : inner.data.toList.length = inner.size := size_l _
    rw [nst_zero_len, hsz] at he
    have hb' : s.data.toList.drop p = hdrL c false 4 inner.size (ll inner.size) ++ (inner.data.toList ++ rest) := by
      rw [hb, ← List.append_assoc, ← hsz]
      rfl
    refine ⟨fun h => ?_, fun h => ?_⟩
    · have hw := wAt_hdr s.data.toList p e c false 4 inner.size _ hb' hc (by omega) (by omega) (by omega)
      have hdr : s.data.toList.drop (p + (2 + ll inner.size)) = inner.data.toList ++ rest := by
        rw [← List.drop_drop, hb', show 2 + ll inner.size = (hdrL c false 4 inner.size (ll inner.size)).length from (hdrL_len _ _ _ _ _).symm, List.drop_left]
      refine ⟨_, BerMath.one_leaf _ _ _ _ _ _ _ (by omega) hw (fun h => by cases h), by simp, ?_, ?_, ?_⟩
      · simp only [endE, elEnd]
        omega
      · rw [lastE_one]
        simp only [elEnd]
        omega
      · rw [List.map_cons, List.map_nil, ndOf_leaf s inner p c d _ rest hdr]
        rfl
    · have hd' : d = 65 := by omega
      rw [BerMath.one_deep _ _ _ _ _ _ (by omega)]
      show some (25, p) = _
      rw [show 0 + d - 65 = 0 from by omega, nst_zero_len, hsz, he]
      congr 2
      omega
  | i + 1, p, d, f, m, e, rest, hn, hb, he, hf, hd => by
    have hln := nst_len c inner.data.toList i
    have hsz : inner.data.toList.length = inner.size := size_l _
    rw [hsz] at hln
    have hsl := nst_succ_len c inner.data.toList i
    obtain ⟨N, hN⟩ : ∃ N, (nst c inner.data.toList i).length = N := ⟨_, rfl⟩
    have hb' : s.data.toList.drop p = hdrL 0 true 16 N (ll N) ++ (nst c inner.data.toList i ++ rest) := by
      rw [hb, ← List.append_assoc, ← hN]
      rfl
    rw [hN] at hsl hln
    by_cases h65 : d = 65
    · refine ⟨fun h => by omega, fun _ => ?_⟩
      rw [BerMath.one_deep _ _ _ _ _ _ (by omega)]
      show some (25, p) = _
      rw [show i + 1 + d - 65 = i + 1 from by omega, he]
      congr 2
      omega
    have hw := wAt_hdr s.data.toList p e 0 true 16 N _ hb' (by omega) (by omega) (by omega) (by omega)
    rw [BerMath.one_made _ _ _ _ _ _ _ (by omega) hw rfl]
    dsimp only
    have eE : p + (2 + ll N) + N = e := by omega
    rw [eE]
    have hb2 : s.data.toList.drop (p + (2 + ll N)) = nst c inner.data.toList i ++ rest := by
      rw [← List.drop_drop, hb', show 2 + ll N = (hdrL 0 true 16 N (ll N)).length from (hdrL_len _ _ _ _ _).symm, List.drop_left]
    have hN2 : 2 ≤ N := by
      rw [← hN]
      have := nst_mono c inner.data.toList i 0 (Nat.zero_le _)
      rw [nst_zero_len] at this
      omega
    obtain ⟨f', rfl⟩ : ∃ f', f = f' + 1 := ⟨f - 1, by omega⟩
    rw [BerMath.kids_succ _ _ _ _ _ (by omega)]
    obtain ⟨ih1, ih2⟩ := one_nst s c inner hc hi i (p + (2 + ll N)) (d + 1) f' 26 e rest (by omega) hb2 (by omega) (by omega) (by omega)
    refine ⟨fun h => ?_, fun h => ?_⟩
    · obtain ⟨xs, x1, x2, x3, x4, x5⟩ := ih1 (by omega)
      rw [x1]
      unfold andThen
      dsimp only
      rw [x3, BerMath.kids_end _ _ _ _ _ (Nat.le_refl _)]
      dsimp only
      rw [List.append_nil]
      refine ⟨_, rfl, by simp, eE, by rw [lastE_cons _ x2]; exact x4, ?_⟩
      rw [List.map_cons, x5]
      rfl
    · have h2 := ih2 (by omega)
      obtain ⟨⟨xs, r⟩, hr⟩ : ∃ y, one s.data.toList (kids s.data.toList f') 26 e (p + (2 + ll N)) (d + 1) = y := ⟨_, rfl⟩
      rw [hr] at h2 ⊢
      dsimp only at h2
      rw [h2]
      unfold andThen
      dsimp only
      rw [show i + (d + 1) - 65 = i + 1 + d - 65 from by omega]
theorem tree_nst (c : Nat) (inner : ByteArray) (hc : c ≤ 3) (hi : inner.size ≤ 1048576) (n : Nat) (hn : n ≤ 200) :
    (n ≤ 63 → ∃ xs, treeR (S (nst c inner.data.toList n)) = .ok xs ∧ xs.map (ndOf (S (nst c inner.data.toList n))) = nsts c inner 1 n) ∧
    (63 < n → treeR (S (nst c inner.data.toList n)) = .error (25, (nst c inner.data.toList n).length - (nst c inner.data.toList (n - 64)).length)) := by
  have hs : (S (nst c inner.data.toList n)).size = (nst c inner.data.toList n).length := S_size _
  obtain ⟨h1, h2⟩ := one_nst (S (nst c inner.data.toList n)) c inner hc hi n 0 1 (S (nst c inner.data.toList n)).size 20 (S (nst c inner.data.toList n)).size [] hn (by rw [S_l, List.drop_zero, List.append_nil]) (by rw [hs]; omega) (by omega) (by omega)
  refine ⟨fun h => ?_, fun h => ?_⟩
  · obtain ⟨xs, x1, x2, x3, x4, x5⟩ := h1 (by omega)
    refine ⟨xs, ?_, x5⟩
    unfold treeR tr
    rw [x1]
    dsimp only
    rw [x4, if_neg (by omega)]
  · have h3 := h2 (by omega)
    unfold treeR tr
    rw [h3]
    dsimp only
    rw [hs, show n + 1 - 65 = n - 64 from by omega]
end Go.Proofs.Ytgfonnjblbpogaa

namespace Go.Proofs.Ytgfonnjblbpogaa
open Go.RowKit
open BerMath (Hd HR num hAt wAt El TR elEnd endE one andThen kids)
set_option linter.unusedVariables false
namespace BrM

/-- What is left, by the ends of the elements that stand open, the innermost first. -/
def rs (b : List UInt8) (N : Nat) : List Nat → Nat → TR
  | [], _ => ([], none)
  | e :: st, p => andThen (kids b N e p (st.length + 2)) (fun _ => rs b N st e)
/-- The ends rise outwards. -/
def Srt : Nat → List Nat → Prop
  | _, [] => True
  | p, e :: st => p ≤ e ∧ Srt e st
/-- Where the walk stands. -/
def Inv (s : ByteArray) (l : List El) (st : List Nat) (p : Nat) : Prop :=
  l ≠ [] ∧ tr s = (l ++ (rs s.data.toList s.size st p).1, (rs s.data.toList s.size st p).2) ∧ (st.head? = some (lastE l) ∨ p = lastE l) ∧ Srt p st ∧ (∀ e ∈ st, e ≤ s.size ∧ e ≤ 4294967301) ∧ st.length ≤ 64 ∧ 2 * l.length ≤ p ∧ p ≤ s.size ∧ p ≤ 4294967301
theorem andThen_nil (r : TR) : andThen r (fun _ => ([], none)) = r := by
  obtain ⟨xs, o⟩ := r
  cases o <;> simp [andThen]
theorem rs_pop (b : List UInt8) (N e : Nat) (st : List Nat) : rs b N (e :: st) e = rs b N st e := by
  show andThen (kids b N e e _) _ = _
  rw [BerMath.kids_end _ _ _ _ _ (Nat.le_refl _)]
  unfold andThen
  simp
theorem Inv.pop {s : ByteArray} {l : List El} {e : Nat} {st : List Nat} (h : Inv s l (e :: st) e) : Inv s l st e := by
  obtain ⟨h1, h2, h3, h4, h5, h6, h7, h8, h9⟩ := h
  rw [rs_pop] at h2
  refine ⟨h1, h2, Or.inr ?_, h4.2, fun x hx => h5 x (List.mem_cons_of_mem _ hx), by simp at h6; omega, h7, h8, h9⟩
  rcases h3 with h3 | h3
  · simpa using h3
  · exact h3
theorem Inv.done {s : ByteArray} {l : List El} {p : Nat} (h : Inv s l [] p) : tr s = (l, none) ∧ p = lastE l := by
  obtain ⟨h1, h2, h3, _⟩ := h
  refine ⟨?_, ?_⟩
  · rw [h2]
    show (l ++ [], none) = _
    rw [List.append_nil]
  · rcases h3 with h3 | h3
    · simp at h3
    · exact h3
theorem lastE_app (l : List El) (x : El) : lastE (l ++ [x]) = elEnd x := lastE_snoc l x
theorem rs_fail {b : List UInt8} {N e p : Nat} {st : List Nat} {f : Nat × Nat} (hp : p < e) (hN : e ≤ N) (ho : ∀ K, one b K 26 e p (st.length + 2) = ([], some f)) : rs b N (e :: st) p = ([], some f) := by
  obtain ⟨n, rfl⟩ : ∃ n, N = n + 1 := ⟨N - 1, by omega⟩
  show andThen (kids b (n + 1) e p _) _ = _
  rw [BerMath.kids_succ _ _ _ _ _ (by omega), ho]
  rfl
theorem rs_leaf {b : List UInt8} {N e p : Nat} {st : List Nat} {x : Hd} (hp : p < e) (hN : e ≤ N) (hd : ¬ 64 < st.length + 2) (hw : wAt b p e = .ok x) (hm : ¬ x.made = true) : rs b N (e :: st) p = ((p, x, st.length + 2) :: (rs b N ((p + x.size + x.len) :: e :: st) (p + x.size + x.len)).1, (rs b N ((p + x.size + x.len) :: e :: st) (p + x.size + x.len)).2) := by
  obtain ⟨k1, k2, k3, k4, k5, k6⟩ := BerMath.wAt_ok b p e x hw
  rw [rs_pop]
  obtain ⟨n, rfl⟩ : ∃ n, N = n + 1 := ⟨N - 1, by omega⟩
  show andThen (kids b (n + 1) e p _) _ = _
  rw [BerMath.kids_succ _ _ _ _ _ (by omega), BerMath.one_leaf _ _ _ _ _ _ x hd hw hm]
  show andThen (andThen ([(p, x, st.length + 2)], none) (fun xs => kids b n e (endE xs) (st.length + 2))) _ = (_ :: (andThen (kids b (n + 1) e (p + x.size + x.len) (st.length + 2)) _).1, (andThen (kids b (n + 1) e (p + x.size + x.len) (st.length + 2)) _).2)
  rw [← BerMath.kids_fuel b n (n + 1) e (p + x.size + x.len) (st.length + 2) (by omega) (by omega)]
  show andThen ([(p, x, st.length + 2)] ++ (kids b n e (p + x.size + x.len) (st.length + 2)).1, (kids b n e (p + x.size + x.len) (st.length + 2)).2) _ = _
  obtain ⟨⟨ys, o⟩, hr⟩ : ∃ y, kids b n e (p + x.size + x.len) (st.length + 2) = y := ⟨_, rfl⟩
  rw [hr]
  cases o <;> simp [andThen]
theorem rs_made {b : List UInt8} {N e p : Nat} {st : List Nat} {x : Hd} (hp : p < e) (hN : e ≤ N) (hd : ¬ 64 < st.length + 2) (hw : wAt b p e = .ok x) (hm : x.made = true) : rs b N (e :: st) p = ((p, x, st.length + 2) :: (rs b N ((p + x.size + x.len) :: e :: st) (p + x.size)).1, (rs b N ((p + x.size + x.len) :: e :: st) (p + x.size)).2) := by
  obtain ⟨k1, k2, k3, k4, k5, k6⟩ := BerMath.wAt_ok b p e x hw
  obtain ⟨n, rfl⟩ : ∃ n, N = n + 1 := ⟨N - 1, by omega⟩
  have hR : rs b (n + 1) ((p + x.size + x.len) :: e :: st) (p + x.size) = andThen (kids b n (p + x.size + x.len) (p + x.size) (st.length + 2 + 1)) (fun _ => andThen (kids b n e (p + x.size + x.len) (st.length + 2)) (fun _ => rs b (n + 1) st e)) := by
    show andThen (kids b (n + 1) (p + x.size + x.len) (p + x.size) (st.length + 1 + 2)) (fun _ => andThen (kids b (n + 1) e (p + x.size + x.len) (st.length + 2)) _) = _
    rw [BerMath.kids_fuel b (n + 1) n e (p + x.size + x.len) _ (by omega) (by omega), BerMath.kids_fuel b (n + 1) n (p + x.size + x.len) (p + x.size) _ (by omega) (by omega)]
  rw [hR]
  show andThen (kids b (n + 1) e p _) _ = _
  rw [BerMath.kids_succ _ _ _ _ _ (by omega), BerMath.one_made _ _ _ _ _ _ x hd hw hm]
  obtain ⟨⟨ys, o⟩, hr⟩ : ∃ y, kids b n (p + x.size + x.len) (p + x.size) (st.length + 2 + 1) = y := ⟨_, rfl⟩
  rw [hr]
  cases o with
  | some f => rfl
  | none =>
    show andThen (((p, x, st.length + 2) :: ys) ++ (kids b n e (p + x.size + x.len) (st.length + 2)).1, (kids b n e (p + x.size + x.len) (st.length + 2)).2) _ = _
    obtain ⟨⟨zs, o⟩, hz⟩ : ∃ y, kids b n e (p + x.size + x.len) (st.length + 2) = y := ⟨_, rfl⟩
    rw [hz]
    cases o <;> simp [andThen]
/-- One element more. -/
theorem Inv.step {s : ByteArray} {l : List El} {e p : Nat} {st : List Nat} {x : Hd} (h : Inv s l (e :: st) p) (hp : p < e) (hd : ¬ 64 < st.length + 2) (hw : wAt s.data.toList p e = .ok x) :
    Inv s (l ++ [(p, x, st.length + 2)]) ((p + x.size + x.len) :: e :: st) (if x.made = true then p + x.size else p + x.size + x.len) := by
  obtain ⟨h1, h2, h3, h4, h5, h6, h7, h8, h9⟩ := h
  obtain ⟨k1, k2, k3, k4, k5, k6⟩ := BerMath.wAt_ok _ p e x hw
  have he := h5 e (List.mem_cons_self ..)
  refine ⟨by simp, ?_, Or.inl ?_, ?_, ?_, ?_, ?_, ?_, ?_⟩
  · by_cases hm : x.made = true
    · rw [if_pos hm, h2, rs_made hp he.1 hd hw hm, List.append_assoc]
      rfl
    · rw [if_neg hm, h2, rs_leaf hp he.1 hd hw hm, List.append_assoc]
      rfl
  · rw [lastE_app]
    rfl
  · refine ⟨?_, k6, h4.2⟩
    split <;> omega
  · intro y hy
    rcases List.mem_cons.1 hy with rfl | hy
    · omega
    · exact h5 y hy
  · simp only [List.length_cons]
    omega
  · rw [List.length_append]
    simp only [List.length_cons, List.length_nil]
    split <;> omega
  · split <;> omega
  · split <;> omega
/-- The first element. -/
theorem Inv.start {s : ByteArray} {x : Hd} (hw : wAt s.data.toList 0 s.size = .ok x) :
    Inv s [(0, x, 1)] [0 + x.size + x.len] (if x.made = true then 0 + x.size else 0 + x.size + x.len) := by
  obtain ⟨k1, k2, k3, k4, k5, k6⟩ := BerMath.wAt_ok _ 0 _ x hw
  refine ⟨by simp, ?_, Or.inl ?_, ?_, ?_, ?_, ?_, ?_, ?_⟩
  · unfold tr
    by_cases hm : x.made = true
    · rw [if_pos hm, BerMath.one_made _ _ _ _ _ _ x (by decide) hw hm]
      show _ = ([_] ++ (andThen (kids _ _ _ _ 2) (fun _ => ([], none))).1, (andThen (kids _ _ _ _ 2) (fun _ => ([], none))).2)
      rw [andThen_nil]
      rfl
    · rw [if_neg hm, BerMath.one_leaf _ _ _ _ _ _ x (by decide) hw hm, rs_pop]
      rfl
  · rfl
  · refine ⟨?_, trivial⟩
    split <;> omega
  · intro y hy
    rcases List.mem_cons.1 hy with rfl | hy
    · omega
    · simp at hy
  · simp
  · simp only [List.length_cons, List.length_nil]
    split <;> omega
  · split <;> omega
  · split <;> omega
theorem Inv.fail {s : ByteArray} {l : List El} {e p : Nat} {st : List Nat} {f : Nat × Nat} (h : Inv s l (e :: st) p) (hp : p < e) (ho : ∀ K, one s.data.toList K 26 e p (st.length + 2) = ([], some f)) : tr s = (l, some f) := by
  obtain ⟨h1, h2, h3, h4, h5, h6, h7, h8, h9⟩ := h
  rw [h2, rs_fail hp (h5 e (List.mem_cons_self ..)).1 ho]
  simp
end BrM
end Go.Proofs.Ytgfonnjblbpogaa

namespace Go.Proofs.Ytgfonnjblbpogaa
open Go.RowKit BnI
open BerMath (Hd HR num hAt wAt El TR elEnd endE one andThen kids)
set_option linter.unusedVariables false
set_option maxRecDepth 100000
namespace BrM

/-- A place as it lies. -/
def plV (x : El) : List Value := [.int .i64 (x.1 : Int), .int .i64 (x.2.1.cls : Int), .bool x.2.1.made, .int .i64 (x.2.1.tag : Int), .int .i64 (x.2.1.len : Int), .int .i64 (x.2.1.size : Int)]
def pv (l : List El) : List Value := l.flatMap plV
theorem pv_snoc (l : List El) (e : El) : pv (l ++ [e]) = pv l ++ plV e := by simp [pv]
theorem plV_one (e : El) : ∀ u ∈ plV e, u.oneCell' = true := by
  intro u hu
  simp [plV] at hu
  rcases hu with rfl | rfl | rfl | rfl | rfl | rfl <;> rfl
theorem info_place : (Try.prog.info? 31).map (fun i => (i.zero, i.size, i.bytes)) = some (some (.agg #[.int .i64 0, .int .i64 0, .bool false, .int .i64 0, .int .i64 0, .int .i64 0]), 6, 48) := by kernel_rfl
/-- A list of places of the call's own. -/
def OwnP (W : World) (B : Nat) (v : Value) (l : List El) : Prop := W.ownsRow B 31 6 v l.length (pv l)
theorem ownP_nil (W : World) (B : Nat) : OwnP W B (.slice none 0 0) [] := ⟨rfl, Or.inl ⟨rfl, rfl⟩⟩
theorem own_below {w w' : World} {B : Nat} {t : TypeId} {k : Nat} {v : Value} {n : Nat} {xs : List Value} (h : w.ownsRow B t k v n xs) (hb : Below w.heap.size w w') : w'.ownsRow B t k v n xs := by
  rcases h with ⟨h1, ⟨rfl, h2⟩ | ⟨g, cap, cur, rfl, h3, h4, h5⟩⟩
  · exact ⟨h1, Or.inl ⟨rfl, h2⟩⟩
  · have hg : g < w.heap.size := (Array.getElem?_eq_some_iff.1 h4).1
    exact ⟨h1, Or.inr ⟨g, cap, cur, rfl, h3, by rw [hb.block g hg]; exact h4, h5⟩⟩
/-- Rows of other types lie elsewhere. -/
theorem own_ne {w : World} {B B' : Nat} {t t' : TypeId} {k k' : Nat} {v u : Value} {n n' : Nat} {xs ys : List Value} (h : w.ownsRow B t k v n xs) (h' : w.ownsRow B' t' k' u n' ys) (ht : t ≠ t') : v.ownBlock = none ∨ v.ownBlock ≠ u.ownBlock := by
  rcases h.2 with ⟨rfl, _⟩ | ⟨g, cap, cur, rfl, _, hg, _⟩
  · exact Or.inl rfl
  · refine Or.inr (fun e => ?_)
    rcases h'.2 with ⟨rfl, _⟩ | ⟨g', cap', cur', rfl, _, hg', _⟩
    · simp [Value.ownBlock] at e
    · simp [Value.ownBlock] at e
      subst e
      rw [hg] at hg'
      injection hg' with hg'
      injection hg' with _ hg'
      exact ht hg'
theorem own_far {w : World} {B : Nat} {t t' : TypeId} {k : Nat} {v : Value} {n : Nat} {xs : List Value} {g : Nat} {cur : Array Value} {z} (h : w.ownsRow B t k v n xs) (hg : w.heap[g]? = some (.cells cur t' z)) (ht : t ≠ t') : some g ≠ v.ownBlock := by
  rcases h.2 with ⟨rfl, _⟩ | ⟨g', cap', cur', rfl, _, hg', _⟩
  · simp [Value.ownBlock]
  · intro e
    simp [Value.ownBlock] at e
    subst e
    rw [hg] at hg'
    injection hg' with hg'
    injection hg' with _ hg'
    exact ht hg'.symm
theorem dis_symm {v u : Value} (h : v.ownBlock = none ∨ v.ownBlock ≠ u.ownBlock) : u.ownBlock = none ∨ u.ownBlock ≠ v.ownBlock := by
  rcases h with h | h
  · cases hu : u.ownBlock with
    | none => exact Or.inl rfl
    | some x => rw [h]; exact Or.inr (by simp)
  · exact Or.inr (fun e => h e.symm)
theorem appendP_one (w : World) (B : Nat) (v : Value) (l : List El) (e : El) (g : Nat) (hown : OwnP w B v l) (hg : w.heap[g]? = some (.cells (plV e).toArray 31 (0, 0))) (hB : B ≤ w.heap.size) (hl : l.length ≤ 4294967296) :
    ∃ g' cap w', (Builtin.append_ #[22, 22] 22 #[v, .slice (some ⟨g, 0, none⟩) 1 1]).run Try.prog w = .ok (.slice (some ⟨g', 0, none⟩) (l.length + 1) cap) w' ∧ OwnP w' B (.slice (some ⟨g', 0, none⟩) (l.length + 1) cap) (l ++ [e]) ∧ w.grownBy w' v.ownBlock := by
  obtain ⟨i0, hi, hz0, hz1, hz2⟩ := info_parts info_place
  obtain ⟨g', cap, w', hr, h2, h3, _, _⟩ := run_append_lies (P := Try.prog) w 22 22 B 31 i0 _ 6 48 Try.underlying22 hi hz0 hz1 hz2 rfl (by decide) v l.length (pv l) hown ⟨g, 0, none⟩ 1 1 (plV e) rfl (World.news_of_block hg) (plV_one e) (by decide) (by unfold maxLen; omega) (by omega) hB w.heap.size rfl
  refine ⟨g', cap, w', hr, ?_, h3⟩
  unfold OwnP
  rw [pv_snoc, List.length_append]
  exact h2
theorem appendI_one (w : World) (B : Nat) (v : Value) (l : List Int) (x : Int) (g : Nat) (hown : OwnI w B v l) (hg : w.heap[g]? = some (.cells #[.int .i64 x] 3 (0, 0))) (hB : B ≤ w.heap.size) (hl : l.length ≤ 4294967296) :
    ∃ g' cap w', (Builtin.append_ #[34, 34] 34 #[v, .slice (some ⟨g, 0, none⟩) 1 1]).run Try.prog w = .ok (.slice (some ⟨g', 0, none⟩) (l.length + 1) cap) w' ∧ OwnI w' B (.slice (some ⟨g', 0, none⟩) (l.length + 1) cap) (l ++ [x]) ∧ w.grownBy w' v.ownBlock ∧ (v.ownBlock = some g' ∨ g' = w.heap.size) := by
  obtain ⟨i0, hi, hz0, hz1, hz2⟩ := info_parts info_i64
  obtain ⟨g', cap, w', hr, h2, h3, h4, _⟩ := run_append_lies (P := Try.prog) w 34 34 B 3 i0 _ 1 8 Try.underlying34 hi hz0 hz1 hz2 rfl (by decide) v l.length (iv l) hown ⟨g, 0, none⟩ 1 1 (iv [x]) rfl (World.news_of_block hg) (iv_one _) (by decide) (by unfold maxLen; omega) (by omega) hB w.heap.size rfl
  refine ⟨g', cap, w', hr, ?_, h3, h4⟩
  unfold OwnI
  rw [iv_app, List.length_append]
  exact h2
theorem ownI_pop {w : World} {B : Nat} {v : Value} {l : List Int} {x : Int} (h : OwnI w B v (l ++ [x])) :
    ∃ g cap, v = .slice (some ⟨g, 0, none⟩) (l.length + 1) cap ∧ l.length + 1 ≤ cap ∧ w.cell? ⟨g, l.length, none⟩ = some (.int .i64 x) ∧ OwnI w B (.slice (some ⟨g, 0, none⟩) l.length cap) l := by
  have h0 := h
  obtain ⟨h1, ⟨_, h2⟩ | ⟨g, cap, cur, rfl, h3, h4, h5, h6, h7, h8⟩⟩ := h
  · simp at h2
  · rw [List.length_append] at h0 h5 h8 ⊢
    simp only [List.length_cons, List.length_nil, Nat.zero_add, Nat.mul_one] at h0 h5 h7 h8 ⊢
    refine ⟨g, cap, rfl, h5, ?_, ?_⟩
    · have hc := World.ownsRow.cellAt (show w.ownsRow B 3 1 (.slice (some ⟨g, 0, none⟩) (l.length + 1) cap) (l.length + 1) (iv (l ++ [x])) from by have := h0; unfold OwnI at this; rw [List.length_append] at this; exact this) l.length (by omega)
      rw [hc]
      simp [iv]
    · refine ⟨by rw [iv_len]; omega, Or.inr ⟨g, cap, cur, rfl, h3, h4, by omega, h6, by omega, ?_⟩⟩
      rw [Nat.mul_one]
      have : (cur.toList.take (l.length + 1)).take l.length = cur.toList.take l.length := by rw [List.take_take, Nat.min_eq_left (by omega)]
      rw [← this, h8, iv_app, ← iv_len l, List.take_left]
/-- The ends and the depths as numbers. -/
def ends (st : List Nat) : List Int := st.reverse.map (fun (n : Nat) => (n : Int))
theorem ends_cons (e : Nat) (st : List Nat) : ends (e :: st) = ends st ++ [(e : Int)] := by simp [ends]
theorem ends_len (st : List Nat) : (ends st).length = st.length := by simp [ends]
def deps (l : List El) : List Int := l.map (fun x => (x.2.2 : Int))
theorem deps_snoc (l : List El) (x : El) : deps (l ++ [x]) = deps l ++ [(x.2.2 : Int)] := by simp [deps]
theorem deps_len (l : List El) : (deps l).length = l.length := by simp [deps]
def Mem (W : World) (B : Nat) (lv dv ev : Value) (l : List El) (st : List Nat) : Prop := OwnP W B lv l ∧ OwnI W B dv (deps l) ∧ OwnI W B ev (ends st) ∧ (dv.ownBlock = none ∨ dv.ownBlock ≠ ev.ownBlock)
theorem Mem.below {W W' : World} {B : Nat} {lv dv ev : Value} {l : List El} {st : List Nat} (h : Mem W B lv dv ev l st) (hb : Below W.heap.size W W') : Mem W' B lv dv ev l st := ⟨own_below h.1 hb, own_below h.2.1 hb, own_below h.2.2.1 hb, h.2.2.2⟩
theorem Mem.pop {W : World} {B : Nat} {lv dv ev : Value} {l : List El} {e : Nat} {st : List Nat} (h : Mem W B lv dv ev l (e :: st)) :
    ∃ g cap, ev = .slice (some ⟨g, 0, none⟩) (st.length + 1) cap ∧ st.length + 1 ≤ cap ∧ W.cell? ⟨g, st.length, none⟩ = some (.int .i64 (e : Int)) ∧ Mem W B lv dv (.slice (some ⟨g, 0, none⟩) st.length cap) l st := by
  obtain ⟨h1, h2, h3, h4⟩ := h
  rw [ends_cons] at h3
  obtain ⟨g, cap, rfl, q1, q2, q3⟩ := ownI_pop h3
  rw [ends_len] at q1 q2 q3 ⊢
  exact ⟨g, cap, rfl, q1, q2, h1, h2, q3, h4⟩
/-- The three lists, one element more. -/
theorem Mem.step {W : World} {B : Nat} {lv dv ev : Value} {l : List El} {st : List Nat} (h : Mem W B lv dv ev l st) (hB : B ≤ W.heap.size) (hl : l.length ≤ 4294967295) (hs : st.length ≤ 64) (x : El) (E : Nat) (gh : Nat) (hc : Array Value) (hgh : W.heap[gh]? = some (.cells hc 29 (0, 0))) :
    ∃ g1 c1 w1 g2 c2 w2 g3 c3 w3, (Builtin.append_ #[22, 22] 22 #[lv, .slice (some ⟨W.heap.size, 0, none⟩) 1 1]).run Try.prog (W.alloc (.cells (plV x).toArray 31)) = .ok (.slice (some ⟨g1, 0, none⟩) (l.length + 1) c1) w1 ∧
      (Builtin.append_ #[34, 34] 34 #[dv, .slice (some ⟨w1.heap.size, 0, none⟩) 1 1]).run Try.prog (w1.alloc (.cells #[.int .i64 (x.2.2 : Int)] 3)) = .ok (.slice (some ⟨g2, 0, none⟩) (l.length + 1) c2) w2 ∧
      (Builtin.append_ #[34, 34] 34 #[ev, .slice (some ⟨w2.heap.size, 0, none⟩) 1 1]).run Try.prog (w2.alloc (.cells #[.int .i64 (E : Int)] 3)) = .ok (.slice (some ⟨g3, 0, none⟩) (st.length + 1) c3) w3 ∧
      Mem w3 B (.slice (some ⟨g1, 0, none⟩) (l.length + 1) c1) (.slice (some ⟨g2, 0, none⟩) (l.length + 1) c2) (.slice (some ⟨g3, 0, none⟩) (st.length + 1) c3) (l ++ [x]) (E :: st) ∧
      w1.heap[gh]? = some (.cells hc 29 (0, 0)) ∧ w2.heap[gh]? = some (.cells hc 29 (0, 0)) ∧ w3.heap[gh]? = some (.cells hc 29 (0, 0)) ∧ Below B W w3 := by
  obtain ⟨h1, h2, h3, h4⟩ := h
  have hlt : gh < W.heap.size := (Array.getElem?_eq_some_iff.1 hgh).1
  have b0 : Below B W (W.alloc (.cells (plV x).toArray 31)) := (Below.refl _ _).alloc hB _
  obtain ⟨g1, c1, w1, e1, o1, gr1⟩ := appendP_one (W.alloc (.cells (plV x).toArray 31)) B lv l x W.heap.size (World.ownsRow.alloc h1 _) (heap_alloc_new _ _) (by simp; omega) (by omega)
  have a1 : (W.alloc (.cells (plV x).toArray 31)).heap[gh]? = some (.cells hc 29 (0, 0)) := by rw [heap_alloc_old _ _ hlt]; exact hgh
  have k1 : w1.heap[gh]? = some (.cells hc 29 (0, 0)) := by rw [gr1.block gh (Array.getElem?_eq_some_iff.1 a1).1 (own_far (World.ownsRow.alloc h1 _) a1 (by decide))]; exact a1
  have d1 : OwnI w1 B dv (deps l) := World.ownsRow.kept (World.ownsRow.alloc h2 _) gr1 (own_ne h2 h1 (by decide))
  have f1 : OwnI w1 B ev (ends st) := World.ownsRow.kept (World.ownsRow.alloc h3 _) gr1 (own_ne h3 h1 (by decide))
  have b1 : Below B W w1 := b0.grown gr1 (by simp; omega) (fun j hj => (World.ownsRow.lt h1 _ hj).1)
  have hB1 : B ≤ w1.heap.size := Nat.le_trans hB b1.size
  obtain ⟨g2, c2, w2, e2, o2, gr2, p2⟩ := appendI_one (w1.alloc (.cells #[.int .i64 (x.2.2 : Int)] 3)) B dv (deps l) (x.2.2 : Int) w1.heap.size (World.ownsRow.alloc d1 _) (heap_alloc_new _ _) (by simp; omega) (by rw [deps_len]; omega)
  have a2 : (w1.alloc (.cells #[.int .i64 (x.2.2 : Int)] 3)).heap[gh]? = some (.cells hc 29 (0, 0)) := by rw [heap_alloc_old _ _ (Array.getElem?_eq_some_iff.1 k1).1]; exact k1
  have k2 : w2.heap[gh]? = some (.cells hc 29 (0, 0)) := by rw [gr2.block gh (Array.getElem?_eq_some_iff.1 a2).1 (own_far (World.ownsRow.alloc d1 _) a2 (by decide))]; exact a2
  have o1' : OwnP w2 B _ _ := World.ownsRow.kept (World.ownsRow.alloc o1 (.cells #[.int .i64 (x.2.2 : Int)] 3)) gr2 (own_ne o1 d1 (by decide))
  have f2 : OwnI w2 B ev (ends st) := World.ownsRow.kept (World.ownsRow.alloc f1 _) gr2 (dis_symm h4)
  have b2 : Below B W w2 := (b1.alloc hB1 _).grown gr2 (by simp; omega) (fun j hj => (World.ownsRow.lt d1 _ hj).1)
  have hB2 : B ≤ w2.heap.size := Nat.le_trans hB b2.size
  have dis2 : (Value.slice (some ⟨g2, 0, none⟩) ((deps l).length + 1) c2).ownBlock = none ∨ (Value.slice (some ⟨g2, 0, none⟩) ((deps l).length + 1) c2).ownBlock ≠ ev.ownBlock := by
    refine Or.inr (fun e => ?_)
    have e' : ev.ownBlock = some g2 := by rw [← e]; rfl
    rcases p2 with p2 | p2
    · rcases h4 with h4 | h4
      · rw [h4] at p2; cases p2
      · exact h4 (by rw [p2, e'])
    · have := (World.ownsRow.lt f1 _ e').2
      rw [p2] at this
      simp at this
      omega
  obtain ⟨g3, c3, w3, e3, o3, gr3, p3⟩ := appendI_one (w2.alloc (.cells #[.int .i64 (E : Int)] 3)) B ev (ends st) (E : Int) w2.heap.size (World.ownsRow.alloc f2 _) (heap_alloc_new _ _) (by simp; omega) (by rw [ends_len]; omega)
  have a3 : (w2.alloc (.cells #[.int .i64 (E : Int)] 3)).heap[gh]? = some (.cells hc 29 (0, 0)) := by rw [heap_alloc_old _ _ (Array.getElem?_eq_some_iff.1 k2).1]; exact k2
  have k3 : w3.heap[gh]? = some (.cells hc 29 (0, 0)) := by rw [gr3.block gh (Array.getElem?_eq_some_iff.1 a3).1 (own_far (World.ownsRow.alloc f2 _) a3 (by decide))]; exact a3
  have o1'' : OwnP w3 B _ _ := World.ownsRow.kept (World.ownsRow.alloc o1' (.cells #[.int .i64 (E : Int)] 3)) gr3 (own_ne o1' f2 (by decide))
  have o2' : OwnI w3 B _ _ := World.ownsRow.kept (World.ownsRow.alloc o2 (.cells #[.int .i64 (E : Int)] 3)) gr3 dis2
  have b3 : Below B W w3 := (b2.alloc hB2 _).grown gr3 (by simp; omega) (fun j hj => (World.ownsRow.lt f2 _ hj).1)
  have dis3 : (Value.slice (some ⟨g2, 0, none⟩) ((deps l).length + 1) c2).ownBlock = none ∨ (Value.slice (some ⟨g2, 0, none⟩) ((deps l).length + 1) c2).ownBlock ≠ (Value.slice (some ⟨g3, 0, none⟩) ((ends st).length + 1) c3).ownBlock := by
    refine Or.inr (fun e => ?_)
    have e' : g2 = g3 := by simpa [Value.ownBlock] using e
    subst e'
    rcases p3 with p3 | p3
    · rcases dis2 with q | q
      · simp [Value.ownBlock] at q
      · exact q (by rw [p3]; rfl)
    · have := (World.ownsRow.lt o2 g2 rfl).2
      rw [p3] at this
      simp at this
      omega
  rw [deps_len] at e2 o2' dis3
  rw [ends_len] at e3 o3 dis3
  exact ⟨g1, c1, w1, g2, c2, w2, g3, c3, w3, e1, e2, e3, ⟨o1'', by rw [deps_snoc]; exact o2', by rw [ends_cons]; exact o3, dis3⟩, k1, k2, k3, b3⟩
end BrM
end Go.Proofs.Ytgfonnjblbpogaa

namespace Go.Proofs.Ytgfonnjblbpogaa
open Go.RowKit BnI
open BerMath (Hd HR num hAt wAt El TR elEnd endE one andThen kids)
set_option linter.unusedVariables false
namespace BrM

def WkQ (s : ByteArray) (B : Nat) (r : Ending) (w' : World) : Prop :=
  ∃ (lv dv : Value) (c q : Int), r = .returned (.tuple #[lv, dv, .int .i64 c, .int .i64 q]) ∧ OwnP w' B lv (tr s).1 ∧ OwnI w' B dv (deps (tr s).1) ∧ ((∃ f : Nat × Nat, (tr s).2 = some f ∧ c = (f.1 : Int) ∧ q = (f.2 : Int)) ∨ ((tr s).2 = none ∧ c = 0 ∧ q = (lastE (tr s).1 : Int)))
theorem wkQ_bad {s : ByteArray} {B : Nat} {W : World} {lv dv ev : Value} {l : List El} {st : List Nat} {c q : Nat} (h : tr s = (l, some (c, q))) (hm : Mem W B lv dv ev l st) : WkQ s B (.returned (.tuple #[lv, dv, .int .i64 (c : Int), .int .i64 (q : Int)])) W :=
  ⟨lv, dv, _, _, rfl, by rw [h]; exact hm.1, by rw [h]; exact hm.2.1, Or.inl ⟨(c, q), by rw [h], rfl, rfl⟩⟩
theorem wkQ_ok {s : ByteArray} {B : Nat} {W : World} {lv dv ev : Value} {l : List El} {st : List Nat} {p : Nat} (h : tr s = (l, none) ∧ p = lastE l) (hm : Mem W B lv dv ev l st) : WkQ s B (.returned (.tuple #[lv, dv, .int .i64 0, .int .i64 (p : Int)])) W :=
  ⟨lv, dv, _, _, rfl, by rw [h.1]; exact hm.1, by rw [h.1]; exact hm.2.1, Or.inr ⟨by rw [h.1], rfl, by rw [h.1, h.2]⟩⟩
def slLen : Value → Nat
  | .slice _ n _ => n
  | _ => 0
theorem hdcell {W : World} {g : Nat} {cur : Array Value} {t : TypeId} (h : W.heap[g]? = some (.cells cur t (0, 0))) (j : Nat) (v : Value) (hv : cur[j]? = some v) : W.cell? ⟨g, j, none⟩ = some v := by
  simp [World.cell?, h, hv]
theorem meas_p (N p q : Nat) (h : p < q) (hq : q ≤ N) : N - (intOf (.int .i64 (q : Int))).toNat < N - (intOf (.int .i64 (p : Int))).toNat := by
  simp [intOf]
  omega
theorem ww (a b c : Nat) (h : a + b = c) (hc : c ≤ 281474976710656) : wrap64 ((a : Int) + (b : Int)) = (c : Int) := by unfold wrap64; omega
theorem w1 (a c : Nat) (h : a + 1 = c) (hc : c ≤ 281474976710656) : wrap64 ((a : Int) + 1) = (c : Int) := by unfold wrap64; omega
theorem wm (a c : Nat) (h : a = c + 1) (hc : c ≤ 281474976710656) : wrap64 ((a : Int) - 1) = (c : Int) := by unfold wrap64; omega
theorem Mem.alloc {W : World} {B : Nat} {lv dv ev : Value} {l : List El} {st : List Nat} (h : Mem W B lv dv ev l st) (o : Obj) : Mem (W.alloc o) B lv dv ev l st := ⟨World.ownsRow.alloc h.1 _, World.ownsRow.alloc h.2.1 _, World.ownsRow.alloc h.2.2.1 _, h.2.2.2⟩
/-- How a round goes on, by the element that is met. -/
def Go (s : ByteArray) (l : List El) (st : List Nat) (p e d : Nat) (mis : Nat) : Prop :=
  (∀ h, wAt s.data.toList p e = .ok h → Inv s (l ++ [(p, h, d)]) ((p + h.size + h.len) :: st) (if h.made = true then p + h.size else p + h.size + h.len)) ∧
  (∀ c q, wAt s.data.toList p e = .error (some (c, q)) → tr s = (l, some (c, q))) ∧
  (wAt s.data.toList p e = .error none → tr s = (l, some (mis, e)))
theorem go_first (s : ByteArray) (p : Nat) (hp : p = 0) : Go s [] [] p s.size 1 20 := by
  subst hp
  refine ⟨fun h hw => Inv.start hw, fun c q hw => ?_, fun hw => ?_⟩
  · unfold tr
    rw [BerMath.one_er _ _ _ _ _ _ (c, q) (by decide) hw]
  · unfold tr
    rw [BerMath.one_miss _ _ _ _ _ _ (by decide) hw]
theorem go_next {s : ByteArray} {l : List El} {st : List Nat} {p e : Nat} (h : Inv s l (e :: st) p) (hp : p < e) (hd : ¬ 64 < st.length + 2) : Go s l (e :: st) p e (st.length + 2) 26 :=
  ⟨fun x hw => h.step hp hd hw, fun c q hw => h.fail hp (fun K => BerMath.one_er _ _ _ _ _ _ (c, q) hd hw), fun hw => h.fail hp (fun K => BerMath.one_miss _ _ _ _ _ _ hd hw)⟩

set_option maxRecDepth 100000 in
set_option maxHeartbeats 4000000 in
theorem rwalk_any (s : ByteArray) (w : World) (hm : s.size ≤ 140737488355328) :
    Calls Try.prog 28 #[.string s] w fun r w' => WkQ s w.heap.size r w' ∧ Below w.heap.size w w' := by
  have hm' : Hid (s.size ≤ 140737488355328) := hm
  clear hm
  go_enter Try.func28, Try.ntmps28
  go_wp2_with fail
  go_loopw [6, 7, 8, 9] (fun lv dv ev pv wr => ∃ (l : List El) (st : List Nat) (p : Nat) (la : Option Addr) (ln lc : Nat) (dd : Value) (ea : Option Addr) (m ec : Nat), lv = .slice la ln lc ∧ dv = dd ∧ ev = .slice ea m ec ∧ pv = .int .i64 (p : Int) ∧ Hid (ln = l.length ∧ m = st.length ∧ Mem wr w.heap.size (.slice la ln lc) dd (.slice ea m ec) l st ∧ Below w.heap.size w wr ∧ ((l = [] ∧ st = [] ∧ p = 0) ∨ Inv s l st p))) (fun _ _ _ pv _ => s.size - (intOf pv).toNat)
  case atStart => exact ⟨[], [], 0, none, 0, 0, _, none, 0, 0, rfl, rfl, rfl, rfl, rfl, rfl, ⟨ownP_nil _ _, ownI_nil _ _, ownI_nil _ _, Or.inl rfl⟩, Below.refl _ _, Or.inl ⟨rfl, rfl, rfl⟩⟩
  case round =>
    obtain ⟨l, st, p, la, ln, lc, dd, ea, m, ec, rfl, hdv, rfl, rfl, HO⟩ := hrel
    have hdv' := hdv.symm
    clear hdv
    subst hdv'
    obtain ⟨wo, hwo⟩ : ∃ wo, wo = wr := ⟨_, rfl⟩
    subst hwo
    have HL : Hid (ln = l.length ∧ Below w.heap.size w wo) := ⟨HO.out.1, HO.out.2.2.2.1⟩
    have HS : Hid (m = st.length ∧ Mem wo w.heap.size (.slice la ln lc) dd (.slice ea m ec) l st ∧ ((l = [] ∧ st = [] ∧ p = 0) ∨ Inv s l st p)) := ⟨HO.out.2.1, HO.out.2.2.1, HO.out.2.2.2.2⟩
    clear HO
    go_wp2_with fail
    go_loopw [8] (fun ev wq => ∃ (st' : List Nat) (ea' : Option Addr) (m' ec' : Nat), ev = .slice ea' m' ec' ∧ Hid (wq = wo ∧ m' = st'.length ∧ Mem wo w.heap.size (.slice la ln lc) dd (.slice ea' m' ec') l st' ∧ ((l = [] ∧ st' = [] ∧ p = 0) ∨ Inv s l st' p))) (fun ev _ => slLen ev)
    case atStart => exact ⟨st, ea, m, ec, rfl, rfl, HS.out⟩
    case round =>
      obtain ⟨st', ea', m', ec', rfl, HI⟩ := hrel
      clear HS
      have hw := HI.out.1
      subst hw
      have HI2 : Hid (m' = st'.length ∧ Mem wr w.heap.size (.slice la ln lc) dd (.slice ea' m' ec') l st' ∧ ((l = [] ∧ st' = [] ∧ p = 0) ∨ Inv s l st' p)) := HI.out.2
      clear HI
      cases st' with
      | nil =>
        obtain ⟨hm0, HM, hcase⟩ := HI2.out
        clear HI2
        have hm00 : m' = 0 := hm0
        subst hm00
        clear hm0
        rcases hcase with ⟨rfl, _, hp0⟩ | hInv
        · have hln : ln = 0 := HL.out.1
          subst hln
          have HGo : Hid (Go s [] [] p s.size 1 20) := go_first s p hp0
          have hpe : p ≤ s.size := by omega
          have HMm : Hid (Mem wr w.heap.size (.slice la 0 lc) dd (.slice ea' 0 ec') ([] : List El) ([] : List Nat)) := HM
          clear HM
          have hW : ∀ W, Hid (Calls Try.prog 51 #[.string s, .int .i64 (p : Int), .int .i64 (s.size : Int)] W fun r w' => r = .returned (refWV s.data.toList p s.size) ∧ Below W.heap.size W w') := fun W => refWhole_any s p s.size W (Nat.le_refl _) hm'.out hpe
          cases hw : wAt s.data.toList p s.size with
          | ok h =>
            have hv : refWV s.data.toList p s.size = .tuple #[.agg #[.int .i64 (h.cls : Int), .bool h.made, .int .i64 (h.tag : Int), .int .i64 (h.len : Int), .int .i64 (h.size : Int)], .int .i64 0, .int .i64 (p : Int)] := by unfold refWV; rw [hw]; rfl
            rw [hv] at hW
            obtain ⟨k1', k2', k3', _, _, k6'⟩ := BerMath.wAt_ok _ _ _ _ hw
            have hN := HGo.out.1 h hw
            have hsz := hm'.out
            obtain ⟨A, hA⟩ : ∃ A, p + h.size = A := ⟨_, rfl⟩
            obtain ⟨Z, hZ⟩ : ∃ Z, A + h.len = Z := ⟨_, rfl⟩
            have wAH : Hid (wrap64 ((p : Int) + (h.size : Int)) = (A : Int)) := ww p h.size A hA (by omega)
            have wZH : Hid (wrap64 ((A : Int) + (h.len : Int)) = (Z : Int)) := ww A h.len Z hZ (by omega)
            rw [hA, hZ] at hN
            have HN : Hid (Inv s (([] : List El) ++ [(p, h, 1)]) (Z :: ([] : List Nat)) (if h.made = true then A else Z)) := hN
            have HLB : Hid (([] : List El).length ≤ 4294967295) := (by unfold Hid; simp)
            have HSB : Hid (([] : List Nat).length ≤ 64) := (by unfold Hid; simp)
            have HP : Hid (p < A ∧ A ≤ s.size ∧ p < Z ∧ Z ≤ s.size) := ⟨by omega, by omega, by omega, by omega⟩
            clear hv hw k1' k2' k3' k6' HGo hN hA hZ hsz hpe hp0
            go_upto_region 21 with (go_at_call 51; refine (hW _).out.mono ?_; rintro r w1 ⟨rfl, hb1⟩; have HMb : Hid (Mem w1 w.heap.size (.slice la 0 lc) dd (.slice ea' 0 ec') ([] : List El) ([] : List Nat)) := HMm.out.below hb1; have HBb : Hid (Below w.heap.size w w1) := HL.out.2.trans (hb1.mono HL.out.2.size); clear hb1)
            obtain ⟨W0, hW0⟩ : ∃ W0, w1.alloc (.cells #[.int .i64 (h.cls : Int), .bool h.made, .int .i64 (h.tag : Int), .int .i64 (h.len : Int), .int .i64 (h.size : Int)] 29) = W0 := ⟨_, rfl⟩
            have hgh : W0.heap[w1.heap.size]? = some (.cells #[.int .i64 (h.cls : Int), .bool h.made, .int .i64 (h.tag : Int), .int .i64 (h.len : Int), .int .i64 (h.size : Int)] 29 (0, 0)) := by rw [← hW0]; exact heap_alloc_new _ _
            have HM0 : Mem W0 w.heap.size (.slice la 0 lc) dd (.slice ea' 0 ec') ([] : List El) ([] : List Nat) := by rw [← hW0]; exact HMb.out.alloc _
            have HB0 : Below w.heap.size w W0 := by rw [← hW0]; exact HBb.out.alloc HBb.out.size _
            obtain ⟨g1, c1, w2, g2, c2, w3, g3, c3, w4, e1, e2, e3, hM4, q1', q2', q3', b4⟩ := HM0.step HB0.size HLB.out HSB.out (p, h, 1) Z w1.heap.size _ hgh
            have HF : Hid (Mem w4 w.heap.size (.slice (some ⟨g1, 0, none⟩) (([] : List El).length + 1) c1) (.slice (some ⟨g2, 0, none⟩) (([] : List El).length + 1) c2) (.slice (some ⟨g3, 0, none⟩) (([] : List Nat).length + 1) c3) (([] : List El) ++ [(p, h, 1)]) (Z :: ([] : List Nat)) ∧ Below w.heap.size w w4) := ⟨hM4, HB0.trans b4⟩
            have x0 := hdcell hgh 0 _ rfl
            have x1 := hdcell hgh 1 _ rfl
            have x2 := hdcell hgh 2 _ rfl
            have x3 := hdcell hgh 3 _ rfl
            have x4 := hdcell hgh 4 _ rfl
            have y4 := hdcell q2' 4 _ rfl
            have y3 := hdcell q2' 3 _ rfl
            have z1 := hdcell q3' 1 _ rfl
            have z3 := hdcell q3' 3 _ rfl
            unfold plV at e1
            dsimp only at e1 e2 e3
            rw [hW0]
            clear hgh HM0 hM4 q1' q2' q3' b4 HMb HBb hW HB0 hW0
            have wA := wAH.out
            have wZ := wZH.out
            clear wAH wZH
            cases hmd : h.made with
            | true =>
              rw [hmd] at x1 z1 e1
              go_wp2_with (first
                | (at_builtin; refine Lib.wpList_append_run _ rfl _ _ _ _ rfl _ _ rfl rfl _ _ e1 ?_; clear e1)
                | (at_builtin; refine Lib.wpList_append_run _ rfl _ _ _ _ rfl _ _ rfl rfl _ _ e2 ?_; clear e2)
                | (at_builtin; refine Lib.wpList_append_run _ rfl _ _ _ _ rfl _ _ rfl rfl _ _ e3 ?_; clear e3))
              go_roundw
              case rel => exact ⟨([] : List El) ++ [(p, h, 1)], Z :: ([] : List Nat), A, _, _, _, _, _, _, _, rfl, rfl, rfl, rfl, by simp, by simp, HF.out.1, HF.out.2, Or.inr (by have := HN.out; rwa [hmd, if_pos rfl] at this)⟩
              case measure => exact meas_p s.size p A HP.out.1 HP.out.2.1
            | false =>
              rw [hmd] at x1 z1 e1
              go_wp2_with (first
                | (at_builtin; refine Lib.wpList_append_run _ rfl _ _ _ _ rfl _ _ rfl rfl _ _ e1 ?_; clear e1)
                | (at_builtin; refine Lib.wpList_append_run _ rfl _ _ _ _ rfl _ _ rfl rfl _ _ e2 ?_; clear e2)
                | (at_builtin; refine Lib.wpList_append_run _ rfl _ _ _ _ rfl _ _ rfl rfl _ _ e3 ?_; clear e3))
              go_roundw
              case rel => exact ⟨([] : List El) ++ [(p, h, 1)], Z :: ([] : List Nat), Z, _, _, _, _, _, _, _, rfl, rfl, rfl, by rw [wZ], by simp, by simp, HF.out.1, HF.out.2, Or.inr (by have := HN.out; rwa [hmd, if_neg (by decide)] at this)⟩
              case measure => rw [wZ]; exact meas_p s.size p Z HP.out.2.2.1 HP.out.2.2.2
          | error o =>
            cases o with
            | some cq =>
              obtain ⟨c, q⟩ := cq
              have hc := BerMath.wAt_er _ _ _ _ _ hw
              have hv : refWV s.data.toList p s.size = .tuple #[.agg #[.int .i64 0, .bool false, .int .i64 0, .int .i64 0, .int .i64 0], .int .i64 (c : Int), .int .i64 (q : Int)] := by unfold refWV; rw [hw]; rfl
              rw [hv] at hW
              have r1 : ((c : Int) == -1) = false := by rw [beq_eq_false_iff_ne]; omega
              have r2 : ((c : Int) != 0) = true := by rw [bne_iff_ne]; omega
              have r3 : ((c : Int) == 0) = false := by rw [beq_eq_false_iff_ne]; omega
              have HT := HGo.out.2.1 c q hw
              have HQ : ∀ W, Hid (Below wr.heap.size wr W → WkQ s w.heap.size (.returned (.tuple #[.slice la 0 lc, dd, .int .i64 (c : Int), .int .i64 (q : Int)])) (W.alloc (.cells #[.int .i64 0, .bool false, .int .i64 0, .int .i64 0, .int .i64 0] 29)) ∧ Below w.heap.size w (W.alloc (.cells #[.int .i64 0, .bool false, .int .i64 0, .int .i64 0, .int .i64 0] 29))) := fun W hb => ⟨wkQ_bad HT ((HMm.out.below hb).alloc _), (HL.out.2.trans (hb.mono HL.out.2.size)).alloc (Nat.le_trans HL.out.2.size hb.size) _⟩
              clear hv hw hc HT HGo HMm HL hm' hpe hp0
              go_wp2_with (go_at_call 51; refine (hW _).out.mono ?_; rintro r w1 ⟨rfl, hb1⟩; have HQ1 := (HQ w1).out hb1; clear hb1)
              refine bodyPost_ret_by (v := .tuple #[.slice la 0 lc, dd, .int .i64 (c : Int), .int .i64 (q : Int)]) (by simp [results, Try.results28]) rfl HQ1
            | none =>
              have hv : refWV s.data.toList p s.size = .tuple #[.agg #[.int .i64 0, .bool false, .int .i64 0, .int .i64 0, .int .i64 0], .int .i64 (-1), .int .i64 (s.size : Int)] := by unfold refWV; rw [hw]; rfl
              rw [hv] at hW
              have HT := HGo.out.2.2 hw
              have HQ : ∀ W, Hid (Below wr.heap.size wr W → WkQ s w.heap.size (.returned (.tuple #[.slice la 0 lc, dd, .int .i64 20, .int .i64 (s.size : Int)])) (W.alloc (.cells #[.int .i64 0, .bool false, .int .i64 0, .int .i64 0, .int .i64 0] 29)) ∧ Below w.heap.size w (W.alloc (.cells #[.int .i64 0, .bool false, .int .i64 0, .int .i64 0, .int .i64 0] 29))) := fun W hb => ⟨wkQ_bad (c := 20) HT ((HMm.out.below hb).alloc _), (HL.out.2.trans (hb.mono HL.out.2.size)).alloc (Nat.le_trans HL.out.2.size hb.size) _⟩
              clear hv hw HT HGo HMm HL hm' hpe hp0
              go_wp2_with (go_at_call 51; refine (hW _).out.mono ?_; rintro r w1 ⟨rfl, hb1⟩; have HQ1 := (HQ w1).out hb1; clear hb1)
              refine bodyPost_ret_by (v := .tuple #[.slice la 0 lc, dd, .int .i64 20, .int .i64 (s.size : Int)]) (by simp [results, Try.results28]) rfl HQ1
        · have hl0 : (ln : Int) > 0 := by
            have h1 := HL.out.1
            have h2 : 0 < l.length := List.length_pos_iff.2 hInv.1
            omega
          have HQ : Hid (WkQ s w.heap.size (.returned (.tuple #[.slice la ln lc, dd, .int .i64 0, .int .i64 (p : Int)])) wr ∧ Below w.heap.size w wr) := ⟨wkQ_ok hInv.done HM, HL.out.2⟩
          clear hInv HM HL hm'
          go_wp2_with fail
          refine bodyPost_ret_by (v := .tuple #[.slice la ln lc, dd, .int .i64 0, .int .i64 (p : Int)]) (by simp [results, Try.results28]) rfl HQ.out
      | cons e st0 =>
        obtain ⟨hm0, HM, hcase⟩ := HI2.out
        clear HI2
        have hInv : Inv s l (e :: st0) p := by
          rcases hcase with ⟨_, h, _⟩ | h
          · cases h
          · exact h
        clear hcase
        obtain ⟨g, cap, hev, hcap, hcell, HMp⟩ := HM.pop
        injection hev with ha hb hc
        subst ha hc
        obtain ⟨k, hk⟩ : ∃ k, k = st0.length := ⟨_, rfl⟩
        rw [← hk] at hcap hcell HMp hb
        have hk64 : k ≤ 63 := by
          have := hInv.2.2.2.2.2.1
          simp at this
          omega
        have m0 : (m' : Int) > 0 := by omega
        have mkH : Hid (wrap64 ((m' : Int) - 1) = (k : Int)) := wm m' k hb (by omega)
        have k0 : (0 : Int) ≤ (k : Int) := Int.natCast_nonneg _
        have k1 : (k : Int) < (m' : Int) := by omega
        by_cases hep : e = p
        · subst hep
          have kc : k ≤ ec' := by omega
          have kc' : (k : Int) ≤ (ec' : Int) := by omega
          have HN : Hid (wr = wr ∧ k = st0.length ∧ Mem wr w.heap.size (.slice la ln lc) dd (.slice (some ⟨g, 0, none⟩) k ec') l st0 ∧ ((l = [] ∧ st0 = [] ∧ e = 0) ∨ Inv s l st0 e)) := ⟨rfl, hk, HMp, Or.inr hInv.pop⟩
          have hmk : Hid (k < m') := by unfold Hid; omega
          have mk := mkH.out
          clear HM hInv HMp hk hm0 hb hk64 hcap HL hm' mkH
          go_wp2_with fail
          go_roundw
          case rel => exact ⟨st0, _, k, ec', rfl, ⟨trivial, HN.out.2⟩⟩
          case measure => exact hmk.out
        · have hpe' : p < e := by have := hInv.2.2.2.1.1; omega
          have q1 : ((e : Int) == (p : Int)) = false := by rw [beq_eq_false_iff_ne]; omega
          have hl0 : (ln : Int) > 0 := by
            have h1 := HL.out.1
            have h2 : 0 < l.length := List.length_pos_iff.2 hInv.1
            omega
          have hl1 : ((ln : Int) == 0) = false := by rw [beq_eq_false_iff_ne]; omega
          have q2 : ((m' : Int) == 0) = false := by rw [beq_eq_false_iff_ne]; omega
          obtain ⟨d, hd⟩ : ∃ d, d = m' + 1 := ⟨_, rfl⟩
          have mdH : Hid (wrap64 ((m' : Int) + 1) = (d : Int)) := w1 m' d hd.symm (by omega)
          have hes := (hInv.2.2.2.2.1 e (List.mem_cons_self ..)).1
          by_cases h64 : 64 < d
          · have d1 : (d : Int) > 64 := by omega
            have HQ : Hid (WkQ s w.heap.size (.returned (.tuple #[.slice la ln lc, dd, .int .i64 25, .int .i64 (p : Int)])) wr ∧ Below w.heap.size w wr) := ⟨wkQ_bad (c := 25) (hInv.fail hpe' (fun K => BerMath.one_deep _ _ _ _ _ _ (by omega))) HM, HL.out.2⟩
            have mk := mkH.out
            have md := mdH.out
            clear hInv HM HMp HL hm' hk hm0 hb hk64 hcap hd hpe' hes mkH mdH
            go_wp2_with fail
            refine bodyPost_ret_by (v := .tuple #[.slice la ln lc, dd, .int .i64 25, .int .i64 (p : Int)]) (by simp [results, Try.results28]) rfl HQ.out
          · have d1 : ¬ (d : Int) > 64 := by omega
            have HGo : Hid (Go s l (e :: st0) p e d 26) := by
              have := go_next hInv hpe' (by omega)
              unfold Hid
              rw [show d = st0.length + 2 from by omega]
              exact this
            have hpe : p ≤ e := by omega
            have hll : Hid (2 * l.length ≤ p ∧ p ≤ 4294967301 ∧ k ≤ 62) := ⟨hInv.2.2.2.2.2.2.1, hInv.2.2.2.2.2.2.2.2, by omega⟩
            have HMm : Hid (Mem wr w.heap.size (.slice la ln lc) dd (.slice (some ⟨g, 0, none⟩) m' ec') l (e :: st0)) := HM
            have hmst : Hid (m' = (e :: st0).length) := hm0
            clear HM HMp hk hm0 hb hk64 hcap h64 hInv hep
            have hW : ∀ W, Hid (Calls Try.prog 51 #[.string s, .int .i64 (p : Int), .int .i64 (e : Int)] W fun r w' => r = .returned (refWV s.data.toList p e) ∧ Below W.heap.size W w') := fun W => refWhole_any s p e W hes hm'.out hpe
            cases hw : wAt s.data.toList p e with
            | ok h =>
              have hv : refWV s.data.toList p e = .tuple #[.agg #[.int .i64 (h.cls : Int), .bool h.made, .int .i64 (h.tag : Int), .int .i64 (h.len : Int), .int .i64 (h.size : Int)], .int .i64 0, .int .i64 (p : Int)] := by unfold refWV; rw [hw]; rfl
              rw [hv] at hW
              obtain ⟨k1', k2', k3', _, _, k6'⟩ := BerMath.wAt_ok _ _ _ _ hw
              have hN := HGo.out.1 h hw
              have hsz := hm'.out
              obtain ⟨A, hA⟩ : ∃ A, p + h.size = A := ⟨_, rfl⟩
              obtain ⟨Z, hZ⟩ : ∃ Z, A + h.len = Z := ⟨_, rfl⟩
              have wAH : Hid (wrap64 ((p : Int) + (h.size : Int)) = (A : Int)) := ww p h.size A hA (by omega)
              have wZH : Hid (wrap64 ((A : Int) + (h.len : Int)) = (Z : Int)) := ww A h.len Z hZ (by omega)
              rw [hA, hZ] at hN
              have HN : Hid (Inv s (l ++ [(p, h, d)]) (Z :: (e :: st0)) (if h.made = true then A else Z)) := hN
              have HLB : Hid (l.length ≤ 4294967295) := (by have := hll.out; unfold Hid; omega)
              have HSB : Hid ((e :: st0).length ≤ 64) := (by unfold Hid; rw [← hmst.out]; omega)
              have HP : Hid (p < A ∧ A ≤ s.size ∧ p < Z ∧ Z ≤ s.size) := ⟨by omega, by omega, by omega, by omega⟩
              clear hv hw k1' k2' k3' k6' HGo hN hA hZ hsz hpe hpe' hes hd
              have mk := mkH.out
              have md := mdH.out
              go_upto_region 21 with (go_at_call 51; refine (hW _).out.mono ?_; rintro r w1 ⟨rfl, hb1⟩; have HMb : Hid (Mem w1 w.heap.size (.slice la ln lc) dd (.slice (some ⟨g, 0, none⟩) m' ec') l (e :: st0)) := HMm.out.below hb1; have HBb : Hid (Below w.heap.size w w1) := HL.out.2.trans (hb1.mono HL.out.2.size); clear hb1)
              obtain ⟨W0, hW0⟩ : ∃ W0, w1.alloc (.cells #[.int .i64 (h.cls : Int), .bool h.made, .int .i64 (h.tag : Int), .int .i64 (h.len : Int), .int .i64 (h.size : Int)] 29) = W0 := ⟨_, rfl⟩
              have hgh : W0.heap[w1.heap.size]? = some (.cells #[.int .i64 (h.cls : Int), .bool h.made, .int .i64 (h.tag : Int), .int .i64 (h.len : Int), .int .i64 (h.size : Int)] 29 (0, 0)) := by rw [← hW0]; exact heap_alloc_new _ _
              have HM0 : Mem W0 w.heap.size (.slice la ln lc) dd (.slice (some ⟨g, 0, none⟩) m' ec') l (e :: st0) := by rw [← hW0]; exact HMb.out.alloc _
              have HB0 : Below w.heap.size w W0 := by rw [← hW0]; exact HBb.out.alloc HBb.out.size _
              obtain ⟨g1, c1, w2, g2, c2, w3, g3, c3, w4, e1, e2, e3, hM4, q1', q2', q3', b4⟩ := HM0.step HB0.size HLB.out HSB.out (p, h, d) Z w1.heap.size _ hgh
              have HF : Hid (Mem w4 w.heap.size (.slice (some ⟨g1, 0, none⟩) (l.length + 1) c1) (.slice (some ⟨g2, 0, none⟩) (l.length + 1) c2) (.slice (some ⟨g3, 0, none⟩) ((e :: st0).length + 1) c3) (l ++ [(p, h, d)]) (Z :: (e :: st0)) ∧ Below w.heap.size w w4) := ⟨hM4, HB0.trans b4⟩
              have x0 := hdcell hgh 0 _ rfl
              have x1 := hdcell hgh 1 _ rfl
              have x2 := hdcell hgh 2 _ rfl
              have x3 := hdcell hgh 3 _ rfl
              have x4 := hdcell hgh 4 _ rfl
              have y4 := hdcell q2' 4 _ rfl
              have y3 := hdcell q2' 3 _ rfl
              have z1 := hdcell q3' 1 _ rfl
              have z3 := hdcell q3' 3 _ rfl
              unfold plV at e1
              dsimp only at e1 e2 e3
              rw [hW0]
              clear hgh HM0 hM4 q1' q2' q3' b4 HMb HBb hW HB0 hW0
              have wA := wAH.out
              have wZ := wZH.out
              clear wAH wZH
              cases hmd : h.made with
              | true =>
                rw [hmd] at x1 z1 e1
                go_wp2_with (first
                  | (at_builtin; refine Lib.wpList_append_run _ rfl _ _ _ _ rfl _ _ rfl rfl _ _ e1 ?_; clear e1)
                  | (at_builtin; refine Lib.wpList_append_run _ rfl _ _ _ _ rfl _ _ rfl rfl _ _ e2 ?_; clear e2)
                  | (at_builtin; refine Lib.wpList_append_run _ rfl _ _ _ _ rfl _ _ rfl rfl _ _ e3 ?_; clear e3))
                go_roundw
                case rel => exact ⟨l ++ [(p, h, d)], Z :: (e :: st0), A, _, _, _, _, _, _, _, rfl, rfl, rfl, rfl, by simp, by simp, HF.out.1, HF.out.2, Or.inr (by have := HN.out; rwa [hmd, if_pos rfl] at this)⟩
                case measure => exact meas_p s.size p A HP.out.1 HP.out.2.1
              | false =>
                rw [hmd] at x1 z1 e1
                go_wp2_with (first
                  | (at_builtin; refine Lib.wpList_append_run _ rfl _ _ _ _ rfl _ _ rfl rfl _ _ e1 ?_; clear e1)
                  | (at_builtin; refine Lib.wpList_append_run _ rfl _ _ _ _ rfl _ _ rfl rfl _ _ e2 ?_; clear e2)
                  | (at_builtin; refine Lib.wpList_append_run _ rfl _ _ _ _ rfl _ _ rfl rfl _ _ e3 ?_; clear e3))
                go_roundw
                case rel => exact ⟨l ++ [(p, h, d)], Z :: (e :: st0), Z, _, _, _, _, _, _, _, rfl, rfl, rfl, by rw [wZ], by simp, by simp, HF.out.1, HF.out.2, Or.inr (by have := HN.out; rwa [hmd, if_neg (by decide)] at this)⟩
                case measure => rw [wZ]; exact meas_p s.size p Z HP.out.2.2.1 HP.out.2.2.2
            | error o =>
              cases o with
              | some cq =>
                obtain ⟨c, q⟩ := cq
                have hc := BerMath.wAt_er _ _ _ _ _ hw
                have hv : refWV s.data.toList p e = .tuple #[.agg #[.int .i64 0, .bool false, .int .i64 0, .int .i64 0, .int .i64 0], .int .i64 (c : Int), .int .i64 (q : Int)] := by unfold refWV; rw [hw]; rfl
                rw [hv] at hW
                have r1 : ((c : Int) == -1) = false := by rw [beq_eq_false_iff_ne]; omega
                have r2 : ((c : Int) != 0) = true := by rw [bne_iff_ne]; omega
                have r3 : ((c : Int) == 0) = false := by rw [beq_eq_false_iff_ne]; omega
                have HT := HGo.out.2.1 c q hw
                have HQ : ∀ W, Hid (Below wr.heap.size wr W → WkQ s w.heap.size (.returned (.tuple #[.slice la ln lc, dd, .int .i64 (c : Int), .int .i64 (q : Int)])) (W.alloc (.cells #[.int .i64 0, .bool false, .int .i64 0, .int .i64 0, .int .i64 0] 29)) ∧ Below w.heap.size w (W.alloc (.cells #[.int .i64 0, .bool false, .int .i64 0, .int .i64 0, .int .i64 0] 29))) := fun W hb => ⟨wkQ_bad HT ((HMm.out.below hb).alloc _), (HL.out.2.trans (hb.mono HL.out.2.size)).alloc (Nat.le_trans HL.out.2.size hb.size) _⟩
                have mk := mkH.out
                have md := mdH.out
                clear hv hw hc HT HGo HMm HL hm' hpe hpe' hes hd
                go_wp2_with (go_at_call 51; refine (hW _).out.mono ?_; rintro r w1 ⟨rfl, hb1⟩; have HQ1 := (HQ w1).out hb1; clear hb1)
                refine bodyPost_ret_by (v := .tuple #[.slice la ln lc, dd, .int .i64 (c : Int), .int .i64 (q : Int)]) (by simp [results, Try.results28]) rfl HQ1
              | none =>
                have hv : refWV s.data.toList p e = .tuple #[.agg #[.int .i64 0, .bool false, .int .i64 0, .int .i64 0, .int .i64 0], .int .i64 (-1), .int .i64 (e : Int)] := by unfold refWV; rw [hw]; rfl
                rw [hv] at hW
                have HT := HGo.out.2.2 hw
                have HQ : ∀ W, Hid (Below wr.heap.size wr W → WkQ s w.heap.size (.returned (.tuple #[.slice la ln lc, dd, .int .i64 26, .int .i64 (e : Int)])) (W.alloc (.cells #[.int .i64 0, .bool false, .int .i64 0, .int .i64 0, .int .i64 0] 29)) ∧ Below w.heap.size w (W.alloc (.cells #[.int .i64 0, .bool false, .int .i64 0, .int .i64 0, .int .i64 0] 29))) := fun W hb => ⟨wkQ_bad (c := 26) HT ((HMm.out.below hb).alloc _), (HL.out.2.trans (hb.mono HL.out.2.size)).alloc (Nat.le_trans HL.out.2.size hb.size) _⟩
                have mk := mkH.out
                have md := mdH.out
                clear hv hw HT HGo HMm HL hm' hpe hpe' hes hd
                go_wp2_with (go_at_call 51; refine (hW _).out.mono ?_; rintro r w1 ⟨rfl, hb1⟩; have HQ1 := (HQ w1).out hb1; clear hb1)
                refine bodyPost_ret_by (v := .tuple #[.slice la ln lc, dd, .int .i64 26, .int .i64 (e : Int)]) (by simp [results, Try.results28]) rfl HQ1
end BrM
end Go.Proofs.Ytgfonnjblbpogaa

namespace Go.Proofs.Ytgfonnjblbpogaa
open Go.RowKit BnI
open BerMath (Hd HR num hAt wAt El TR elEnd endE one andThen kids)
set_option linter.unusedVariables false
namespace BrM

theorem pv_at (l : List El) (i : Nat) (hi : i < l.length) (j : Nat) (hj : j < 6) : (pv l)[i * 6 + j]? = (plV l[i])[j]? := by
  induction l generalizing i with
  | nil => simp at hi
  | cons x l ih =>
    cases i with
    | zero =>
      show (plV x ++ pv l)[0 * 6 + j]? = _
      rw [List.getElem?_append_left (by simp [plV]; omega)]
      simp
    | succ i =>
      show (plV x ++ pv l)[(i + 1) * 6 + j]? = _
      have e : (i + 1) * 6 + j = (plV x).length + (i * 6 + j) := by simp [plV]; omega
      rw [e, List.getElem?_append_right (by omega), Nat.add_sub_cancel_left, ih i (by simpa using hi)]
      rfl
theorem w_up1 (i : Nat) (h : i ≤ 281474976710656) : wrap64 ((i : Int) + 1) = (i : Int) + 1 := by unfold wrap64; omega
theorem meas_up (k i : Nat) (h : i < k) : k - (intOf (.int .i64 ((i : Int) + 1))).toNat < k - (intOf (.int .i64 (i : Int))).toNat := by
  simp [intOf]
  omega
def PRow (w : World) (a : Option Addr) (l : List El) : Prop := ∀ i (hi : i < l.length), ∃ b, a = some ⟨b, 0, none⟩ ∧ ∀ j v, (plV l[i])[j]? = some v → w.cell? ⟨b, i * 6 + j, none⟩ = some v
theorem ownP_any {w : World} {B : Nat} {v : Value} {l : List El} (h : OwnP w B v l) : ∃ a c, v = .slice a l.length c ∧ PRow w a l := by
  have h0 := h
  rcases h.2 with ⟨rfl, hn⟩ | ⟨g, cap, cur, rfl, _⟩
  · have hl : l = [] := List.eq_nil_of_length_eq_zero hn
    subst hl
    exact ⟨none, 0, rfl, fun i hi => by simp at hi⟩
  · refine ⟨_, _, rfl, fun i hi => ⟨g, rfl, fun j u hj => ?_⟩⟩
    have hj6 : j < 6 := by
      rcases Nat.lt_or_ge j 6 with q | q
      · exact q
      · rw [List.getElem?_eq_none (by simp [plV]; omega)] at hj; cases hj
    have hc := World.ownsRow.cellAt (show w.ownsRow B 31 6 _ l.length (pv l) from h0) (i * 6 + j) (by omega)
    rw [hc, pv_at l i hi j hj6]
    exact hj
theorem PRow.below {w w' : World} {a : Option Addr} {l : List El} (h : PRow w a l) (hb : Below w.heap.size w w') : PRow w' a l := fun i hi => by
  obtain ⟨b, e, hc⟩ := h i hi
  refine ⟨b, e, fun j v hv => ?_⟩
  have h1 := hc j v hv
  rw [hb.cell (World.block_lt_of_cell? w _ h1)]
  exact h1
set_option maxRecDepth 100000 in
set_option maxHeartbeats 4000000 in
theorem rtree_any (s : ByteArray) (w : World) (hm : s.size ≤ 140737488355328) :
    Calls Try.prog 20 #[.string s] w fun r w' => treeQ s w.heap.size r w' ∧ Below w.heap.size w w' := by
  have hW : Hid (Calls Try.prog 28 #[.string s] w fun r w' => WkQ s w.heap.size r w' ∧ Below w.heap.size w w') := rwalk_any s w hm
  have hm' : Hid (s.size ≤ 140737488355328) := hm
  clear hm
  go_enter Try.func20, Try.ntmps20
  go_wp2_with fail
  refine hW.out.mono ?_
  rintro r w1 ⟨⟨lv, dv, c, q, rfl, hP, hI, hres⟩, hb1⟩
  have HB1 : Hid (Below w.heap.size w w1) := hb1
  clear hb1 hW
  rcases hres with ⟨f, hf, rfl, rfl⟩ | ⟨hf, rfl, rfl⟩
  · have hc := tr_code s f hf
    have HQ : Hid (treeQ s w.heap.size (.returned (.tuple #[.slice none 0 0, .int .i64 (f.1 : Int), .int .i64 (f.2 : Int)])) w1 ∧ Below w.heap.size w w1) := ⟨Or.inr ⟨f, by unfold treeR; rw [hf], rfl⟩, HB1.out⟩
    have r1 : ((f.1 : Int) == 0) = false := by rw [beq_eq_false_iff_ne]; omega
    have r2 : ((f.1 : Int) != 0) = true := by rw [bne_iff_ne]; omega
    generalize f.1 = c0 at *
    generalize f.2 = q0 at *
    clear hc hf hP hI HB1 hm'
    go_wp2_with fail
    refine bodyPost_ret_by (v := .tuple #[.slice none 0 0, .int .i64 (c0 : Int), .int .i64 (q0 : Int)]) (by simp [results, Try.results20]) rfl HQ.out
  · by_cases hlt : lastE (tr s).1 < s.size
    · have HQ : Hid (treeQ s w.heap.size (.returned (.tuple #[.slice none 0 0, .int .i64 27, .int .i64 (lastE (tr s).1 : Int)])) w1 ∧ Below w.heap.size w w1) := ⟨Or.inr ⟨(27, lastE (tr s).1), by unfold treeR; rw [hf]; dsimp only; rw [if_pos hlt], rfl⟩, HB1.out⟩
      have q1 : (lastE (tr s).1 : Int) < (s.size : Int) := Int.ofNat_lt.2 hlt
      generalize lastE (tr s).1 = q0 at *
      clear hlt hf hP hI HB1 hm'
      go_wp2_with fail
      refine bodyPost_ret_by (v := .tuple #[.slice none 0 0, .int .i64 27, .int .i64 (q0 : Int)]) (by simp [results, Try.results20]) rfl HQ.out
    · have HR : Hid (treeR s = .ok (tr s).1) := by unfold Hid treeR; rw [hf]; dsimp only; rw [if_neg hlt]
      have q1 : ¬ lastE (tr s).1 < s.size := hlt
      obtain ⟨hl1, hl2⟩ := tr_len s
      obtain ⟨la, lc, rfl, hrow⟩ := ownP_any hP
      obtain ⟨da, dn, dc, rfl⟩ := ownI_slice hI
      obtain ⟨hdr, hdn⟩ := ownI_row hI
      rw [deps_len] at hdn
      have hdr : NRow w1 da (deps (tr s).1) := hdr
      generalize lastE (tr s).1 = q0 at *
      generalize (tr s).1 = l at *
      obtain ⟨n, hn⟩ : ∃ n, n = l.length := ⟨_, rfl⟩
      rw [← hn] at hl1 hdn ⊢
      have hdn' := hdn.symm
      clear hdn
      subst hdn'
      have HG : Hid (PRow w1 la l ∧ NRow w1 da (deps l) ∧ n = l.length ∧ n ≤ 2147483650 ∧ ∀ x ∈ l, elEnd x ≤ s.size ∧ 2 ≤ x.2.1.size ∧ x.2.1.size ≤ 6 ∧ x.2.1.len < 4294967296 ∧ x.2.1.cls ≤ 3 ∧ x.2.1.tag ≤ 30 ∧ x.2.2 ≤ 64) := ⟨hrow, hdr, hn, hl1, hl2⟩
      clear hrow hdr hl1 hl2 hP hI hf hlt hn
      go_wp2_with fail
      go_loopw [9, 10] (fun ov iv wr => ∃ (i : Nat) (vo : Value), ov = vo ∧ iv = .int .i64 (i : Int) ∧ i ≤ n ∧ Hid (OwnN wr w1.heap.size vo ((l.take i).map (ndOf s)) ∧ Below w1.heap.size w1 wr)) (fun _ iv _ => n - (intOf iv).toNat)
      case atStart => exact ⟨0, _, rfl, rfl, Nat.zero_le _, ownN_nil _ _, Below.refl _ _⟩
      case round =>
        obtain ⟨i, vo, hvo, rfl, hi, HO⟩ := hrel
        have hvo' := hvo.symm
        clear hvo
        subst hvo'
        have i0 : (0 : Int) ≤ (i : Int) := Int.natCast_nonneg _
        by_cases hlt : i < n
        · have i1 : (i : Int) < (n : Int) := Int.ofNat_lt.2 hlt
          have hil : i < l.length := by rw [← HG.out.2.2.1]; exact hlt
          obtain ⟨b, rfl, hc⟩ := (HG.out.1.below HO.out.2) i hil
          obtain ⟨db, dof, rfl, hdc⟩ := (HG.out.2.1.below HO.out.2) i (by rw [deps_len]; exact hil)
          have hx := HG.out.2.2.2.2 l[i] (List.getElem_mem hil)
          have htk : Hid ((l.take (i + 1)).map (ndOf s) = (l.take i).map (ndOf s) ++ [ndOf s l[i]]) := by
            unfold Hid
            rw [List.take_succ_eq_append_getElem hil, List.map_append]
            rfl
          have hdv : (deps l)[i]'(by rw [deps_len]; exact hil) = (l[i].2.2 : Int) := by simp [deps]
          rw [hdv] at hdc
          generalize l[i] = X at *
          obtain ⟨p, h, d⟩ := X
          have c0 := hc 0 _ rfl
          have c1 := hc 1 _ rfl
          have c2 := hc 2 _ rfl
          have c3 := hc 3 _ rfl
          have c4 := hc 4 _ rfl
          have c5 := hc 5 _ rfl
          dsimp only at c0 c1 c2 c3 c4 c5 hdc hx
          rw [Nat.add_zero] at c0
          have hlt' : Hid (i < n) := hlt
          have hx' : Hid (elEnd (p, h, d) ≤ s.size ∧ h.size ≤ 6 ∧ h.len < 4294967296) := ⟨hx.1, hx.2.2.1, hx.2.2.2.1⟩
          clear hx hc hil hdv hlt hi
          go_upto_region 11 with fail
          obtain ⟨gh, hgh0⟩ : ∃ gh, wr.heap.size = gh := ⟨_, rfl⟩
          obtain ⟨W1, hW1⟩ : ∃ W1, wr.alloc (.cells #[.int .i64 (h.cls : Int), .bool h.made, .int .i64 (h.tag : Int), .int .i64 (h.len : Int), .int .i64 (h.size : Int)] 29) = W1 := ⟨_, rfl⟩
          have hgh : W1.heap[gh]? = some (.cells #[.int .i64 (h.cls : Int), .bool h.made, .int .i64 (h.tag : Int), .int .i64 (h.len : Int), .int .i64 (h.size : Int)] 29 (0, 0)) := by rw [← hW1, ← hgh0]; exact heap_alloc_new _ _
          have hd1 : W1.cell? ⟨db, dof + i, none⟩ = some (.int .i64 (d : Int)) := by rw [← hW1, World.cell?_alloc_past _ _ _ (World.block_lt_of_cell? wr _ hdc)]; exact hdc
          have hp1 : W1.cell? ⟨b, i * 6, none⟩ = some (.int .i64 (p : Int)) := by rw [← hW1, World.cell?_alloc_past _ _ _ (World.block_lt_of_cell? wr _ c0)]; exact c0
          have HO1 : Hid (OwnN W1 w1.heap.size vo ((l.take i).map (ndOf s)) ∧ Below w1.heap.size w1 W1) := ⟨by rw [← hW1]; exact World.ownsRow.alloc HO.out.1 _, by rw [← hW1]; exact HO.out.2.alloc HO.out.2.size _⟩
          have b0 := hdcell hgh 0 _ rfl
          have b1 := hdcell hgh 1 _ rfl
          have b2 := hdcell hgh 2 _ rfl
          rw [hW1, hgh0]
          clear hW1 hgh0 c0 c1 c2 c3 c4 c5 hdc HO
          go_region_held3 (fun w' => w'.cell? ⟨gh, 0, none⟩ = some (.int .i64 (h.cls : Int)) ∧ w'.cell? ⟨gh, 1, none⟩ = some (.bool h.made) ∧ w'.cell? ⟨gh, 2, none⟩ = some (.int .i64 (h.tag : Int)) ∧ w'.cell? ⟨db, dof + i, none⟩ = some (.int .i64 (d : Int)))
            (first | exact ⟨b0, b1, b2, hd1⟩ | go_keep)
            (first | (fail))
          obtain ⟨gn, hgn⟩ : ∃ gn, W1.heap.size = gn := ⟨_, rfl⟩
          obtain ⟨W2, hW2⟩ : ∃ W2, (W1.alloc (.cells #[.int .i64 (d : Int), .int .i64 (h.cls : Int), .bool h.made, .int .i64 (h.tag : Int), .string ⟨#[]⟩] 39)).drew = W2 := ⟨_, rfl⟩
          have hn2 : W2.heap[gn]? = some (.cells #[.int .i64 (d : Int), .int .i64 (h.cls : Int), .bool h.made, .int .i64 (h.tag : Int), .string ⟨#[]⟩] 39 (0, 0)) := by rw [← hW2, ← hgn]; exact heap_alloc_new _ _
          have hbel : Below W1.heap.size W1 W2 := by rw [← hW2]; exact ((Below.refl _ _).alloc (Nat.le_refl _) _).drew
          have hs2 : W2.heap.size = gn + 1 := by rw [← hW2, ← hgn]; simp
          have hgl : gh < W1.heap.size := (Array.getElem?_eq_some_iff.1 hgh).1
          have hgh2 : W2.heap[gh]? = some (.cells #[.int .i64 (h.cls : Int), .bool h.made, .int .i64 (h.tag : Int), .int .i64 (h.len : Int), .int .i64 (h.size : Int)] 29 (0, 0)) := by rw [hbel.block gh hgl]; exact hgh
          have hp2 : W2.cell? ⟨b, i * 6, none⟩ = some (.int .i64 (p : Int)) := by rw [hbel.cell (World.block_lt_of_cell? W1 _ hp1)]; exact hp1
          have m1 := hdcell hgh2 1 (.bool h.made) rfl
          have m3 := hdcell hgh2 3 (.int .i64 (h.len : Int)) rfl
          have m4 := hdcell hgh2 4 (.int .i64 (h.size : Int)) rfl
          have n0 := hdcell hn2 0 (.int .i64 (d : Int)) rfl
          have n1 := hdcell hn2 1 (.int .i64 (h.cls : Int)) rfl
          have n2 := hdcell hn2 2 (.bool h.made) rfl
          have n3 := hdcell hn2 3 (.int .i64 (h.tag : Int)) rfl
          have n4 := hdcell hn2 4 (.string ⟨#[]⟩) rfl
          have f4 : W2.frozen? ⟨gn, 4, none⟩ = false := by simp [World.frozen?, hn2]
          have HO2 : Hid (OwnN W2 w1.heap.size vo ((l.take i).map (ndOf s)) ∧ Below w1.heap.size w1 W2) := ⟨ownN_below HO1.out.1 hbel, HO1.out.2.trans (hbel.mono HO1.out.2.size)⟩
          have hln : Hid (((l.take i).map (ndOf s)).length ≤ 4294967296) := by
            unfold Hid
            rw [List.length_map, List.length_take]
            have := HG.out.2.2.1
            have := HG.out.2.2.2.1
            omega
          have hkw : Hid (wrap64 ((i : Int) + 1) = (i : Int) + 1) := by
            have h1 := HG.out.2.2.2.1
            have h2 := hlt'.out
            exact w_up1 i (by omega)
          have hBs : Hid (w1.heap.size ≤ W2.heap.size) := HO2.out.2.size
          have hbn : Hid (w1.heap.size ≤ gn) := by unfold Hid; rw [← hgn]; exact HO1.out.2.size
          have hob : Hid (∀ g, vo.ownBlock = some g → g < gn) := fun g hg => by rw [← hgn]; exact (World.ownsRow.lt HO1.out.1 _ hg).2
          have hgl2 : Hid (gh < gn) := by unfold Hid; rw [← hgn]; exact hgl
          rw [hW2, hgn]
          clear hgh hd1 hp1 b0 b1 b2 HO1 hW2 hgn hbel hgl hgh2
          cases hmd : h.made with
          | true =>
            rw [hmd] at m1 n2
            have hnd : Hid (ndOf s (p, h, d) = ⟨(d : Int), (h.cls : Int), true, (h.tag : Int), ⟨#[]⟩⟩) := by unfold Hid ndOf; simp only [hmd, if_true]
            obtain ⟨g5, c5, w5, e5, o5, gr5⟩ := appendN_one (W2.alloc (.cells #[.int .i64 (d : Int), .int .i64 (h.cls : Int), .bool true, .int .i64 (h.tag : Int), .string ⟨#[]⟩] 39)) w1.heap.size vo ((l.take i).map (ndOf s)) ⟨(d : Int), (h.cls : Int), true, (h.tag : Int), ⟨#[]⟩⟩ W2.heap.size (World.ownsRow.alloc HO2.out.1 _) (heap_alloc_new _ _) (by have := hBs.out; simp; omega) hln.out
            have hfin : Hid (OwnN w5 w1.heap.size (.slice (some ⟨g5, 0, none⟩) (((l.take i).map (ndOf s)).length + 1) c5) ((l.take (i + 1)).map (ndOf s)) ∧ Below w1.heap.size w1 w5) := ⟨by rw [htk.out, hnd.out]; exact o5, HO2.out.2.trans (((Below.refl _ _).alloc hBs.out _).grown gr5 (by have := hBs.out; simp; omega) (fun j hj => (World.ownsRow.lt HO2.out.1 _ hj).1))⟩
            obtain ⟨on, hon⟩ : ∃ on, ((l.take i).map (ndOf s)).length + 1 = on := ⟨_, rfl⟩
            rw [hon] at e5 hfin
            clear o5 gr5 htk hnd HO2 hx' hln hn2 hon hs2 hmd m3 m4 hp2 f4 hgl2 hBs hob hbn
            go_wp2_with (at_builtin; refine Lib.wpList_append_run _ rfl _ _ _ _ rfl _ _ rfl rfl _ _ e5 ?_; clear e5)
            go_roundw
            case rel => exact ⟨i + 1, _, rfl, congrArg (Value.int .i64) (by rw [hkw.out]; omega), hlt'.out, hfin⟩
            case measure => rw [hkw.out]; exact meas_up n i hlt'.out
          | false =>
            rw [hmd] at m1 n2 hn2
            obtain ⟨A, hA⟩ : ∃ A, p + h.size = A := ⟨_, rfl⟩
            obtain ⟨Z, hZ⟩ : ∃ Z, A + h.len = Z := ⟨_, rfl⟩
            have hsz := hm'.out
            obtain ⟨y1, y2, y3⟩ := hx'.out
            have y1' : p + h.size + h.len ≤ s.size := y1
            have wAH : Hid (wrap64 ((p : Int) + (h.size : Int)) = (A : Int)) := ww p h.size A hA (by omega)
            have wZH : Hid (wrap64 ((A : Int) + (h.len : Int)) = (Z : Int)) := ww A h.len Z hZ (by omega)
            obtain ⟨X, hX⟩ : ∃ X, s.extract A Z = X := ⟨_, rfl⟩
            have hnd : Hid (ndOf s (p, h, d) = ⟨(d : Int), (h.cls : Int), false, (h.tag : Int), X⟩) := by
              unfold Hid ndOf
              simp only [hmd]
              rw [hA, hZ, hX]
              rfl
            have a0 : (0 : Int) ≤ (A : Int) := Int.natCast_nonneg _
            have a1 : (A : Int) ≤ (Z : Int) := by omega
            have a2 : (Z : Int) ≤ (s.size : Int) := by omega
            have wA := wAH.out
            have wZ := wZH.out
            clear hA hZ hsz y1 y2 y3 y1' wAH wZH hx'
            go_upto_region 13 with fail
            go_quiet (fail)
            go_upto_region 15 with fail
            obtain ⟨W3, hW3⟩ : ∃ W3, (W2.drewN nq).setCell ⟨gn, 4, none⟩ (.string X) = W3 := ⟨_, rfl⟩
            have hb3 : Below gn W2 W3 := by rw [← hW3]; exact (show Below gn W2 (W2.drewN nq) from ⟨rfl, rfl, rfl, Nat.le_refl _, fun _ _ => rfl⟩).setCell (Nat.le_refl _) _
            have hs3 : W3.heap.size = W2.heap.size := by rw [← hW3, World.size_setCell]; rfl
            have x0 : W3.cell? ⟨gn, 0, none⟩ = some (.int .i64 (d : Int)) := by rw [← hW3]; simp [go_sem, n0]
            have x1 : W3.cell? ⟨gn, 1, none⟩ = some (.int .i64 (h.cls : Int)) := by rw [← hW3]; simp [go_sem, n1]
            have x2 : W3.cell? ⟨gn, 2, none⟩ = some (.bool false) := by rw [← hW3]; simp [go_sem, n2]
            have x3 : W3.cell? ⟨gn, 3, none⟩ = some (.int .i64 (h.tag : Int)) := by rw [← hW3]; simp [go_sem, n3]
            have x4 : W3.cell? ⟨gn, 4, none⟩ = some (.string X) := by rw [← hW3]; simp [go_sem, n4]
            have hO3 : OwnN W3 w1.heap.size vo ((l.take i).map (ndOf s)) := ownN_block HO2.out.1 (fun g hg hgl hv => hb3.block g (hob.out g hv))
            have hB3 : Below w1.heap.size w1 W3 := HO2.out.2.trans (hb3.mono (by have := hBs.out; have := hbn.out; omega))
            obtain ⟨g5, c5, w5, e5, o5, gr5⟩ := appendN_one (W3.alloc (.cells #[.int .i64 (d : Int), .int .i64 (h.cls : Int), .bool false, .int .i64 (h.tag : Int), .string X] 39)) w1.heap.size vo ((l.take i).map (ndOf s)) ⟨(d : Int), (h.cls : Int), false, (h.tag : Int), X⟩ W3.heap.size (World.ownsRow.alloc hO3 _) (heap_alloc_new _ _) (by have := hB3.size; simp; omega) hln.out
            have hfin : Hid (OwnN w5 w1.heap.size (.slice (some ⟨g5, 0, none⟩) (((l.take i).map (ndOf s)).length + 1) c5) ((l.take (i + 1)).map (ndOf s)) ∧ Below w1.heap.size w1 w5) := ⟨by rw [htk.out, hnd.out]; exact o5, hB3.trans (((Below.refl _ _).alloc hB3.size _).grown gr5 (by have := hB3.size; simp; omega) (fun j hj => (World.ownsRow.lt hO3 _ hj).1))⟩
            obtain ⟨on, hon⟩ : ∃ on, ((l.take i).map (ndOf s)).length + 1 = on := ⟨_, rfl⟩
            rw [hon] at e5 hfin
            rw [hW3]
            clear o5 gr5 htk hnd HO2 hln hn2 hon hs2 hmd m1 m3 m4 hp2 f4 hgl2 hBs hob hbn hb3 hs3 hO3 hB3 hW3 n0 n1 n2 n3 n4 wA wZ a0 a1 a2 hX
            go_wp2_with (at_builtin; refine Lib.wpList_append_run _ rfl _ _ _ _ rfl _ _ rfl rfl _ _ e5 ?_; clear e5)
            go_roundw
            case rel => exact ⟨i + 1, _, rfl, congrArg (Value.int .i64) (by rw [hkw.out]; omega), hlt'.out, hfin⟩
            case measure => rw [hkw.out]; exact meas_up n i hlt'.out
        · obtain rfl : i = n := by omega
          have i1 : ¬ (i : Int) < (i : Int) := by omega
          have hfin : Hid (treeQ s w.heap.size (.returned (.tuple #[vo, .int .i64 0, .int .i64 0])) wr ∧ Below w.heap.size w wr) := by
            refine ⟨Or.inl ⟨l, vo, HR.out, rfl, ?_⟩, HB1.out.trans (HO.out.2.mono HB1.out.size)⟩
            have h1 := HO.out.1
            rw [HG.out.2.2.1, List.take_length] at h1
            exact ownN_base h1 HB1.out.size
          clear HO HG HR hlt hi
          go_wp2_with fail
          refine bodyPost_ret_by (v := .tuple #[vo, .int .i64 0, .int .i64 0]) (by simp [results, Try.results20]) rfl hfin.out
end BrM
end Go.Proofs.Ytgfonnjblbpogaa
