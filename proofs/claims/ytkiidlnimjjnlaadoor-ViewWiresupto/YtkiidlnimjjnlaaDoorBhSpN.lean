import Derived.Test.YtkiidlnimjjnlaaDoorBhSpM
import Derived.Test.YtkiidlnimjjnlaaDoorBwM
namespace Go.Proofs.YtkiidlnimjjnlaaDoor
open BhSpM
set_option linter.unusedVariables false

/-- The bytes of the nodes from s on, m of them. -/
def outB (H : Nat → List UInt8) (B : Nat → ByteArray) (s m : Nat) : List UInt8 := (List.range' s m).flatMap (fun j => H j ++ (B j).data.toList)
theorem outB_zero (H : Nat → List UInt8) (B : Nat → ByteArray) (s : Nat) : outB H B s 0 = [] := rfl
theorem outB_cons (H : Nat → List UInt8) (B : Nat → ByteArray) (s m : Nat) : outB H B s (m + 1) = (H s ++ (B s).data.toList) ++ outB H B (s + 1) m := by
  unfold outB
  rw [List.range'_succ, List.flatMap_cons]
theorem outB_snoc (H : Nat → List UInt8) (B : Nat → ByteArray) (m : Nat) : outB H B 0 (m + 1) = outB H B 0 m ++ (H m ++ (B m).data.toList) := by
  unfold outB
  rw [List.range'_concat, List.flatMap_append]
  simp
theorem outB_congr {H H' : Nat → List UInt8} (B : Nat → ByteArray) : ∀ (m s : Nat), (∀ j, s ≤ j → H j = H' j) → outB H B s m = outB H' B s m
  | 0, _, _ => rfl
  | m + 1, s, h => by rw [outB_cons, outB_cons, h s (Nat.le_refl _), outB_congr B m (s + 1) (fun j hj => h j (by omega))]
def updH (H : Nat → List UInt8) (i : Nat) (x : List UInt8) : Nat → List UInt8 := fun j => if j = i then x else H j
theorem bsum_mono (B : Nat → ByteArray) : ∀ (n k : Nat), k ≤ n → bsum B k ≤ bsum B n
  | 0, k, h => by rw [Nat.le_zero.1 h]; exact Nat.le_refl _
  | n + 1, k, h => by
    by_cases e : k = n + 1
    · rw [e]; exact Nat.le_refl _
    · have := bsum_mono B n k (by omega)
      show bsum B k ≤ bsum B n + (B n).size + 6
      omega
theorem bsum_six (B : Nat → ByteArray) : ∀ n, 6 * n ≤ bsum B n
  | 0 => Nat.le_refl _
  | n + 1 => by
    have := bsum_six B n
    show 6 * (n + 1) ≤ bsum B n + (B n).size + 6
    omega
/-- The bytes of the nodes from a on, up to z. -/
def byB (H : Nat → List UInt8) (B : Nat → ByteArray) (a z : Nat) : Nat := (outB H B a (z - a)).length
theorem outB_app (H : Nat → List UInt8) (B : Nat → ByteArray) (s a c : Nat) : outB H B s (a + c) = outB H B s a ++ outB H B (s + a) c := by
  unfold outB
  rw [range_split, List.flatMap_append]
theorem byB_same (H : Nat → List UInt8) (B : Nat → ByteArray) (a : Nat) : byB H B a a = 0 := by unfold byB; rw [Nat.sub_self]; rfl
theorem byB_add (H : Nat → List UInt8) (B : Nat → ByteArray) (a b c : Nat) (h1 : a ≤ b) (h2 : b ≤ c) : byB H B a c = byB H B a b + byB H B b c := by
  unfold byB
  rw [show c - a = (b - a) + (c - b) from by omega, outB_app, List.length_append, show a + (b - a) = b from by omega]
theorem byB_one (H : Nat → List UInt8) (B : Nat → ByteArray) (a : Nat) : byB H B a (a + 1) = (H a).length + (B a).size := by
  unfold byB
  rw [show a + 1 - a = 0 + 1 from by omega, outB_cons, outB_zero, List.append_nil, List.length_append, size_l]
theorem byB_congr {H H' : Nat → List UInt8} (B : Nat → ByteArray) (a z : Nat) (h : ∀ j, a ≤ j → H j = H' j) : byB H B a z = byB H' B a z := by
  unfold byB
  rw [outB_congr B _ _ h]
/-- How the open sums and the lengths that are said stand to the nodes. -/
def SpX (n K : Nat) (D C T : Nat → Int) (M : Nat → Bool) (B : Nat → ByteArray) (σ : List Nat) (H : Nat → List UInt8) : Prop :=
  (∀ x : Nat, σ.getD x 0 = byB H B (idx D ((x : Int) + 1) (n - K) K) (idx D (x : Int) (n - K) K)) ∧
  ∀ j, K ≤ j → j < n → ∃ len k : Nat, H j = hdrL (C j).toNat (M j) (T j).toNat len k ∧ Says len k ∧ (M j = true → len = byB H B (j + 1) (idx D (D j + 1) (n - (j + 1)) (j + 1))) ∧ (M j = false → len = (B j).size)
/-- Where spelt's first loop stands: the nodes from K on are done. -/
def SpI (n K : Nat) (D C T : Nat → Int) (M : Nat → Bool) (B : Nat → ByteArray) (σ : List Nat) (H : Nat → List UInt8) : Prop :=
  σ.length = 66 ∧ (∀ x : Nat, (K = n ∨ (K < n ∧ D K < (x : Int))) → σ.getD x 0 = 0) ∧ (0 < K → ∀ x, x < 2 → σ.getD x 0 = 0) ∧ σ.sum = (outB H B K (n - K)).length ∧ σ.sum + bsum B K ≤ bsum B n ∧
  (K = 0 → ∃ len k : Nat, H 0 = hdrL (C 0).toNat (M 0) (T 0).toNat len k ∧ Says len k ∧ σ.sum = 2 + k + len) ∧ SpX n K D C T M B σ H
theorem getD_zeros (x : Nat) : (List.replicate 66 0).getD x 0 = 0 := by
  simp only [List.getD, List.getElem?_replicate]
  split <;> rfl
theorem spI_start (n : Nat) (hn : 0 < n) (D C T : Nat → Int) (M : Nat → Bool) (B : Nat → ByteArray) : SpI n n D C T M B (List.replicate 66 0) (fun _ => []) :=
  ⟨by simp, fun x _ => getD_zeros x, fun _ x _ => getD_zeros x, by rw [Nat.sub_self, outB_zero]; simp, by simp, fun h => by omega, fun x => by rw [getD_zeros, Nat.sub_self]; exact (byB_same _ _ _).symm, fun j h1 h2 => by omega⟩
/-- The length of a node's content. -/
def spL (D : Nat → Int) (M : Nat → Bool) (B : Nat → ByteArray) (σ : List Nat) (i : Nat) : Nat := len σ (D i).toNat (M i) (B i).size
def spS (D : Nat → Int) (M : Nat → Bool) (B : Nat → ByteArray) (σ : List Nat) (i k : Nat) : List Nat := stp σ (D i).toNat (M i) (B i).size (2 + k)
theorem empty_size {b : ByteArray} (h : b.toList.isEmpty = true) : b.size = 0 := by
  have h' : b.toList = [] := List.isEmpty_iff.1 h
  rw [Lib.toList_data] at h'
  have := congrArg List.length h'
  rw [size_l] at this
  exact this
theorem spX_step {n i : Nat} {D C T : Nat → Int} {M : Nat → Bool} {B : Nat → ByteArray} {σ : List Nat} {H : Nat → List UInt8} (hi : i < n) (hG : ∀ j, j < n → Good D C T M B j) (d : Nat) (hd : D i = (d : Int)) (k : Nat) (h1 : σ.length = 66) (hX : SpX n (i + 1) D C T M B σ H) (hab : ∀ x, d < x → (spS D M B σ i k).getD x 0 = 0) (hs : Says (spL D M B σ i) k) :
    SpX n i D C T M B (spS D M B σ i k) (updH H i (hdrL (C i).toNat (M i) (T i).toNat (spL D M B σ i) k)) := by
  obtain ⟨x1, x2⟩ := hX
  obtain ⟨g1, g2, g3, g4, g5, g6, g7, g8, g9⟩ := hG i hi
  have hdn : (D i).toNat = d := by omega
  obtain ⟨m, hm⟩ : ∃ m, n - (i + 1) = m := ⟨_, rfl⟩
  have hm1 : n - i = m + 1 := by omega
  have hnx : m = 0 ∨ (D (i + 1) ≤ (d : Int) + 1 ∧ ((d : Int) < D (i + 1) → M i = true)) := by
    by_cases e : i + 1 = n
    · exact Or.inl (by omega)
    · have hh := (hG (i + 1) (by omega)).2.2.2.2.2.2.2.2 i rfl
      exact Or.inr ⟨by omega, fun q => hh.2.2 (by omega)⟩
  have hcg : ∀ a z, i + 1 ≤ a → byB (updH H i (hdrL (C i).toNat (M i) (T i).toNat (spL D M B σ i) k)) B a z = byB H B a z := fun a z ha => byB_congr B a z (fun j hj => by unfold updH; rw [if_neg (by omega)])
  have hHi : (updH H i (hdrL (C i).toNat (M i) (T i).toNat (spL D M B σ i) k)) i = hdrL (C i).toNat (M i) (T i).toNat (spL D M B σ i) k := if_pos rfl
  rw [hm] at x1
  -- the node's own length
  have hlenM : M i = true → spL D M B σ i = byB H B (i + 1) (idx D ((d : Int) + 1) m (i + 1)) := fun hM => by
    unfold spL BhSpM.len
    rw [hM, if_pos rfl, hdn, x1 (d + 1)]
    have hh : m = 0 ∨ D (i + 1) < (d : Int) + 1 + 1 := by
      rcases hnx with h | h
      · exact Or.inl h
      · exact Or.inr (by omega)
    rw [show ((d + 1 : Nat) : Int) = (d : Int) + 1 from by omega, idx_here D ((d : Int) + 1 + 1) m (i + 1) hh]
  have hlenB : M i = false → spL D M B σ i = (B i).size := fun hM => by unfold spL BhSpM.len; rw [hM]; rfl
  have hidB : M i = false → idx D ((d : Int) + 1) m (i + 1) = i + 1 := fun hM => idx_here _ _ _ _ (by
    rcases hnx with h | h
    · exact Or.inl h
    · refine Or.inr ?_
      by_cases q : (d : Int) < D (i + 1)
      · rw [h.2 q] at hM; cases hM
      · omega)
  have hlen : spL D M B σ i = (B i).size + byB H B (i + 1) (idx D ((d : Int) + 1) m (i + 1)) := by
    cases hM : M i with
    | true => rw [hlenM hM, empty_size (g7 hM), Nat.zero_add]
    | false => rw [hlenB hM, hidB hM, byB_same, Nat.add_zero]
  refine ⟨fun x => ?_, fun j h1' h2' => ?_⟩
  · rw [hm1]
    rcases Nat.lt_trichotomy x d with q | q | q
    · rw [idx_next D _ m i (by omega), idx_next D _ m i (by omega), hcg _ _ (idx_ge _ _ _ _).1, ← x1 x]
      unfold spS
      rw [hdn, BhSpM.stp_less σ d (M i) (B i).size (2 + k) x q]
    · subst q
      rw [idx_here D _ (m + 1) i (Or.inr (by omega)), idx_next D _ m i (by omega)]
      have a1 := idx_ge D ((x : Int) + 1) m (i + 1)
      have a2 := idx_ge D (x : Int) m (i + 1)
      have a3 : idx D ((x : Int) + 1) m (i + 1) ≤ idx D (x : Int) m (i + 1) := by
        rcases Nat.lt_or_ge (idx D (x : Int) m (i + 1)) (idx D ((x : Int) + 1) m (i + 1)) with q | q
        · have b1 := idx_all D ((x : Int) + 1) m (i + 1) _ a2.1 q
          have b2 := idx_at D (x : Int) m (i + 1) (by omega)
          omega
        · exact q
      rw [byB_add _ B i (i + 1) _ (by omega) a2.1, byB_one, hcg _ _ (Nat.le_refl _), hHi, hdrL_len, byB_add H B (i + 1) _ _ a1.1 a3, ← x1 x]
      unfold spS
      rw [hdn, BhSpM.stp_here σ x (M i) (B i).size (2 + k) (by omega)]
      have e : BhSpM.len σ x (M i) (B i).size = spL D M B σ i := by unfold spL; rw [hdn]
      rw [e, hlen]
      omega
    · rw [hab x q, idx_here D _ (m + 1) i (Or.inr (by omega)), idx_here D _ (m + 1) i (Or.inr (by omega)), byB_same]
  · by_cases e : j = i
    · subst e
      refine ⟨spL D M B σ j, k, hHi, hs, fun hM => ?_, hlenB⟩
      rw [hcg _ _ (Nat.le_refl _), hm, hd]
      exact hlenM hM
    · obtain ⟨len, k', q1, q2, q3, q4⟩ := x2 j (by omega) h2'
      refine ⟨len, k', ?_, q2, fun hM => ?_, q4⟩
      · unfold updH; rw [if_neg e]; exact q1
      · rw [hcg _ _ (by omega)]; exact q3 hM
theorem spI_step {n i : Nat} {D C T : Nat → Int} {M : Nat → Bool} {B : Nat → ByteArray} {σ : List Nat} {H : Nat → List UInt8} (hi : i < n) (hI : SpI n (i + 1) D C T M B σ H) (hG : ∀ j, j < n → Good D C T M B j) (k : Nat) (hk : k ≤ 4) (hs : Says (spL D M B σ i) k) :
    SpI n i D C T M B (spS D M B σ i k) (updH H i (hdrL (C i).toNat (M i) (T i).toNat (spL D M B σ i) k)) := by
  obtain ⟨h1, h2, h3, h4, h5, h6, h7⟩ := hI
  obtain ⟨g1, g2, g3, g4, g5, g6, g7, g8, g9⟩ := hG i hi
  obtain ⟨d, hd⟩ : ∃ d : Nat, D i = (d : Int) := ⟨(D i).toNat, by omega⟩
  have hdn : (D i).toNat = d := by omega
  have hz : ∀ x, d + 1 < x → σ.getD x 0 = 0 := fun x hx => h2 x (by
    by_cases e : i + 1 = n
    · exact Or.inl e
    · have := (hG (i + 1) (by omega)).2.2.2.2.2.2.2.2 i rfl
      exact Or.inr ⟨by omega, by omega⟩)
  have hm : M i = false → σ.getD (d + 1) 0 = 0 := fun hM => h2 (d + 1) (by
    by_cases e : i + 1 = n
    · exact Or.inl e
    · have hh := (hG (i + 1) (by omega)).2.2.2.2.2.2.2.2 i rfl
      refine Or.inr ⟨by omega, ?_⟩
      by_cases q : D i < D (i + 1)
      · rw [hh.2.2 q] at hM; cases hM
      · omega)
  have hd66 : d + 1 < σ.length := by omega
  have hab : ∀ x, d < x → (spS D M B σ i k).getD x 0 = 0 := by
    unfold spS; rw [hdn]; exact stp_zero σ d (M i) (B i).size (2 + k) hd66 hz hm
  have hsum : (spS D M B σ i k).sum = σ.sum + (2 + k) + (B i).size := by
    unfold spS
    rw [hdn, stp_sum σ d (M i) (B i).size (2 + k) hd66]
    cases hM : M i
    · rfl
    · rw [empty_size (g7 hM)]; rfl
  refine ⟨by unfold spS; rw [stp_len]; exact h1, fun x hx => hab x (by rcases hx with hx | hx <;> omega), fun h0 x hx => ?_, ?_, ?_, fun h0 => ?_, spX_step hi hG d hd k h1 h7 hab hs⟩
  · have hh := g9 (i - 1) (by omega)
    unfold spS
    rw [stp_less σ _ (M i) (B i).size (2 + k) x (by omega)]
    exact h3 (by omega) x hx
  · have e1 : n - i = (n - (i + 1)) + 1 := by omega
    have e2 : outB (updH H i (hdrL (C i).toNat (M i) (T i).toNat (spL D M B σ i) k)) B (i + 1) (n - (i + 1)) = outB H B (i + 1) (n - (i + 1)) := outB_congr B _ _ (fun j hj => by unfold updH; rw [if_neg (by omega)])
    rw [hsum, e1, outB_cons, e2, List.length_append, ← h4]
    unfold updH
    rw [if_pos rfl, List.length_append, hdrL_len]
    have := size_l (B i)
    omega
  · have : bsum B (i + 1) = bsum B i + (B i).size + 6 := rfl
    rw [hsum]
    omega
  · subst h0
    have d1 : d = 1 := by have := g8 rfl; omega
    subst d1
    refine ⟨spL D M B σ 0, k, by unfold updH; rw [if_pos rfl], hs, ?_⟩
    have e1 : (spS D M B σ 0 k).sum = (spS D M B σ 0 k).getD 1 0 := sum_one _ 1 (by unfold spS; rw [stp_len]; omega) (fun x hx => by
      by_cases e : x = 0
      · subst e
        unfold spS
        rw [stp_less σ _ (M 0) (B 0).size (2 + k) 0 (by omega)]
        exact h3 (by omega) 0 (by omega)
      · exact hab x (by omega))
    rw [e1]
    unfold spS
    rw [hdn, stp_here σ 1 (M 0) (B 0).size (2 + k) hd66, h3 (by omega) 1 (by omega)]
    unfold spL
    rw [hdn]
    omega
theorem spL_le {n i : Nat} {D C T : Nat → Int} {M : Nat → Bool} {B : Nat → ByteArray} {σ : List Nat} {H : Nat → List UInt8} (hi : i < n) (hI : SpI n (i + 1) D C T M B σ H) : spL D M B σ i ≤ bsum B n ∧ ∀ x, σ.getD x 0 ≤ bsum B n := by
  have h5 := hI.2.2.2.2.1
  have hx : ∀ x, σ.getD x 0 ≤ bsum B n := fun x => by have := sum_ge σ x; omega
  refine ⟨?_, hx⟩
  unfold spL len
  split
  · exact hx _
  · have h1 := bsum_mono B n (i + 1) hi
    have : bsum B (i + 1) = bsum B i + (B i).size + 6 := rfl
    omega
/-- What is laid at the end. -/
theorem spI_end {n : Nat} {D C T : Nat → Int} {M : Nat → Bool} {B : Nat → ByteArray} {σ : List Nat} {H : Nat → List UInt8} (hn : 0 < n) (hI : SpI n 0 D C T M B σ H) :
    ∃ (len k : Nat) (rest : List UInt8), outB H B 0 n = hdrL (C 0).toNat (M 0) (T 0).toNat len k ++ rest ∧ Says len k ∧ rest.length = len ∧ 2 + k + len ≤ bsum B n := by
  obtain ⟨h1, h2, h3, h4, h5, h6, _⟩ := hI
  obtain ⟨len, k, e1, e2, e3⟩ := h6 rfl
  obtain ⟨m, rfl⟩ : ∃ m, n = m + 1 := ⟨n - 1, by omega⟩
  have e4 : outB H B 0 (m + 1) = hdrL (C 0).toNat (M 0) (T 0).toNat len k ++ ((B 0).data.toList ++ outB H B 1 m) := by rw [outB_cons, e1, List.append_assoc]
  refine ⟨len, k, _, e4, e2, ?_, by omega⟩
  rw [Nat.sub_zero, e4, List.length_append, hdrL_len] at h4
  omega
end Go.Proofs.YtkiidlnimjjnlaaDoor
