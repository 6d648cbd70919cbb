import Derived.Test.YtgfonnjblbpogaaBwWr
import Derived.Test.YtgfonnjblbpogaaBwFm
import Derived.Test.YtgfonnjblbpogaaBwL
import Derived.Test.YtgfonnjblbpogaaBSplit2
namespace Go.Proofs.Ytgfonnjblbpogaa
open Go.RowKit
open BerMath (Hd HR num hAt wAt)
set_option linter.unusedVariables false

/-- The headers of a list, each in its shortest form. -/
def SpF (n : Nat) (D C T : Nat → Int) (M : Nat → Bool) (B : Nat → ByteArray) (H : Nat → List UInt8) (L : Nat → Nat) : Prop :=
  ∀ j, j < n → H j = hdrL (C j).toNat (M j) (T j).toNat (L j) (ll (L j)) ∧ Says (L j) (ll (L j)) ∧ (M j = true → L j = byB H B (j + 1) (idx D (D j + 1) (n - (j + 1)) (j + 1))) ∧ (M j = false → L j = (B j).size)
theorem spF_of {n : Nat} {D C T : Nat → Int} {M : Nat → Bool} {B : Nat → ByteArray} {σ : List Nat} {H : Nat → List UInt8} (hI : SpI n 0 D C T M B σ H) (hS : ∀ j, j < n → ∃ len, H j = hdrL (C j).toNat (M j) (T j).toNat len (ll len) ∧ len ≤ 67108864) : ∃ L, SpF n D C T M B H L := by
  have hX := hI.2.2.2.2.2.2.2
  have h : ∀ j, ∃ l, j < n → H j = hdrL (C j).toNat (M j) (T j).toNat l (ll l) ∧ Says l (ll l) ∧ (M j = true → l = byB H B (j + 1) (idx D (D j + 1) (n - (j + 1)) (j + 1))) ∧ (M j = false → l = (B j).size) := fun j => by
    by_cases hj : j < n
    · obtain ⟨len, e, hle⟩ := hS j hj
      obtain ⟨l1, k1, p1, p2, p3, p4⟩ := hX j (Nat.zero_le _) hj
      have s' : Says len (ll len) := says_wide len (by omega)
      obtain ⟨e1, e2⟩ := hdr_inj (p1.symm.trans e) p2 s'
      subst e1
      exact ⟨l1, fun _ => ⟨e, s', p3, p4⟩⟩
    · exact ⟨0, fun q => absurd q hj⟩
  obtain ⟨f, hf⟩ := Classical.axiomOfChoice h
  exact ⟨f, fun j hj => hf j hj⟩
theorem outB_eq {H H' : Nat → List UInt8} {B B' : Nat → ByteArray} : ∀ (m s s' : Nat), (∀ j, j < m → H (s + j) = H' (s' + j) ∧ B (s + j) = B' (s' + j)) → outB H B s m = outB H' B' s' m
  | 0, _, _, _ => rfl
  | m + 1, s, s', h => by
    have h0 := h 0 (Nat.succ_pos _)
    rw [Nat.add_zero, Nat.add_zero] at h0
    rw [outB_cons, outB_cons, h0.1, h0.2, outB_eq m (s + 1) (s' + 1) (fun j hj => by
      have := h (j + 1) (by omega)
      rw [show s + 1 + j = s + (j + 1) from by omega, show s' + 1 + j = s' + (j + 1) from by omega]
      exact this)]
theorem spF_uniq {n : Nat} {D C T : Nat → Int} {M : Nat → Bool} {B : Nat → ByteArray} {H H' : Nat → List UInt8} {L L' : Nat → Nat} (h : SpF n D C T M B H L) (h' : SpF n D C T M B H' L') : ∀ (d j : Nat), n - j ≤ d → j < n → H j = H' j
  | 0, j, h1, h2 => by omega
  | d + 1, j, h1, h2 => by
    obtain ⟨a1, a2, a3, a4⟩ := h j h2
    obtain ⟨b1, b2, b3, b4⟩ := h' j h2
    have el : L j = L' j := by
      cases hM : M j with
      | false => rw [a4 hM, b4 hM]
      | true =>
        rw [a3 hM, b3 hM]
        have hi := idx_ge D (D j + 1) (n - (j + 1)) (j + 1)
        unfold byB
        rw [outB_eq (H := H) (H' := H') (B := B) (B' := B) _ (j + 1) (j + 1) (fun i hi' => ⟨spF_uniq h h' d (j + 1 + i) (by omega) (by omega), rfl⟩)]
    rw [a1, b1, el]
/-- A part of the list, shifted. -/
theorem idx_part {D : Nat → Int} {c m n : Nat} {x : Int} (hmn : c + m ≤ n) (he : c + m < n → D (c + m) < x) : ∀ (k K : Nat), K + k = m → c + idx (fun j => D (c + j) - 1) (x - 1) k K = idx D x (n - (c + K)) (c + K)
  | 0, K, h => by
    show c + K = _
    rw [idx_here D x (n - (c + K)) (c + K) (by
      by_cases q : c + m < n
      · right; have := he q; rw [show c + K = c + m from by omega]; exact this
      · left; omega)]
  | k + 1, K, h => by
    have hlt : c + K < n := by omega
    rw [show n - (c + K) = (n - (c + (K + 1))) + 1 from by omega]
    show c + (if D (c + K) - 1 < x - 1 then K else idx (fun j => D (c + j) - 1) (x - 1) k (K + 1)) = (if D (c + K) < x then c + K else idx D x (n - (c + (K + 1))) (c + K + 1))
    by_cases q : D (c + K) < x
    · rw [if_pos (by omega), if_pos q]
    · rw [if_neg (by omega), if_neg q]
      exact idx_part hmn he k (K + 1) (by omega)
/-- Where the part that begins at c ends. -/
def nxt (D : Nat → Int) (n c : Nat) : Nat := idx D (D c + 1) (n - (c + 1)) (c + 1)
theorem spF_part {n : Nat} {D C T : Nat → Int} {M : Nat → Bool} {B : Nat → ByteArray} {H : Nat → List UInt8} {L : Nat → Nat} (h : SpF n D C T M B H L) {c m : Nat} (hmn : c + m ≤ n) (he : ∀ j, j < m → c + m < n → D (c + m) < D (c + j) + 1) :
    SpF m (fun j => D (c + j) - 1) (fun j => C (c + j)) (fun j => T (c + j)) (fun j => M (c + j)) (fun j => B (c + j)) (fun j => H (c + j)) (fun j => L (c + j)) := fun j hj => by
  obtain ⟨a1, a2, a3, a4⟩ := h (c + j) (by omega)
  refine ⟨a1, a2, fun hM => ?_, a4⟩
  dsimp only
  rw [a3 hM]
  have hi := idx_part (D := D) (c := c) (m := m) (n := n) (x := D (c + j) + 1) hmn (he j hj) (m - (j + 1)) (j + 1) (by omega)
  rw [show D (c + j) + 1 - 1 = D (c + j) - 1 + 1 from by omega] at hi
  rw [show c + j + 1 = c + (j + 1) from by omega, ← hi]
  unfold byB
  congr 1
  rw [show c + idx (fun j => D (c + j) - 1) (D (c + j) - 1 + 1) (m - (j + 1)) (j + 1) - (c + (j + 1)) = idx (fun j => D (c + j) - 1) (D (c + j) - 1 + 1) (m - (j + 1)) (j + 1) - (j + 1) from by omega]
  exact outB_eq _ _ _ (fun i _ => ⟨by rw [show c + (j + 1) + i = c + (j + 1 + i) from by omega], by rw [show c + (j + 1) + i = c + (j + 1 + i) from by omega]⟩)
theorem good_part {n : Nat} {D C T : Nat → Int} {M : Nat → Bool} {B : Nat → ByteArray} (hG : ∀ i, i < n → Good D C T M B i) {c m : Nat} (hmn : c + m ≤ n) (h2 : D c = 2) (hin : ∀ j, 0 < j → j < m → 3 ≤ D (c + j)) :
    ∀ j, j < m → Good (fun j => D (c + j) - 1) (fun j => C (c + j)) (fun j => T (c + j)) (fun j => M (c + j)) (fun j => B (c + j)) j := fun j hj => by
  obtain ⟨g1, g2, g3, g4, g5, g6, g7, g8, g9⟩ := hG (c + j) (by omega)
  have hd : 2 ≤ D (c + j) := by
    rcases Nat.eq_zero_or_pos j with e | e
    · subst e; rw [Nat.add_zero, h2]; exact Int.le_refl _
    · have := hin j e hj; omega
  refine ⟨g1, g2, g3, g4, by dsimp only; omega, by dsimp only; omega, g7, fun e => ?_, fun i e => ?_⟩
  · subst e; dsimp only; rw [Nat.add_zero, h2]; rfl
  · subst e
    obtain ⟨q1, q2, q3⟩ := g9 (c + i) (by omega)
    have := hin (i + 1) (by omega) hj
    exact ⟨by dsimp only; omega, by dsimp only; rw [show c + (i + 1) = c + i + 1 from by omega] at *; omega, fun q => q3 (by dsimp only at q; rw [show c + (i + 1) = c + i + 1 from by omega] at *; omega)⟩
theorem bsum_part (B : Nat → ByteArray) (c : Nat) : ∀ m, bsum (fun j => B (c + j)) m + bsum B c = bsum B (c + m)
  | 0 => by show 0 + _ = _; rw [Nat.zero_add]; rfl
  | m + 1 => by
    have := bsum_part B c m
    show bsum (fun j => B (c + j)) m + (B (c + m)).size + 6 + bsum B c = bsum B (c + m) + (B (c + m)).size + 6
    omega
/-- What a part holds. -/
theorem nxt_facts {n : Nat} {D C T : Nat → Int} {M : Nat → Bool} {B : Nat → ByteArray} (hG : ∀ i, i < n → Good D C T M B i) (c : Nat) (hc : c < n) :
    c + 1 ≤ nxt D n c ∧ nxt D n c ≤ n ∧ (∀ t, c + 1 ≤ t → t < nxt D n c → D c + 1 ≤ D t) ∧ (nxt D n c < n → D (nxt D n c) < D c + 1) ∧ (M c = false → nxt D n c = c + 1) := by
  obtain ⟨h1, h2⟩ := idx_ge D (D c + 1) (n - (c + 1)) (c + 1)
  refine ⟨h1, by unfold nxt; omega, fun t a b => idx_all D (D c + 1) _ _ t a b, fun q => idx_at D (D c + 1) _ _ (by unfold nxt at q; omega), fun hM => ?_⟩
  unfold nxt
  refine idx_here D _ _ _ ?_
  by_cases q : c + 1 < n
  · right
    obtain ⟨_, _, g⟩ := (hG (c + 1) q).2.2.2.2.2.2.2.2 c rfl
    rcases Int.lt_or_le (D c) (D (c + 1)) with u | u
    · rw [g u] at hM; cases hM
    · omega
  · left; omega
def bodyK (D : Nat → Int) (n : Nat) (B : Nat → ByteArray) (H : Nat → List UInt8) (c : Nat) : List UInt8 := (B c).data.toList ++ outB H B (c + 1) (nxt D n c - (c + 1))
theorem bodyK_len {n : Nat} {D C T : Nat → Int} {M : Nat → Bool} {B : Nat → ByteArray} {H : Nat → List UInt8} {L : Nat → Nat} (hG : ∀ i, i < n → Good D C T M B i) (h : SpF n D C T M B H L) (c : Nat) (hc : c < n) : (bodyK D n B H c).length = L c := by
  obtain ⟨a1, a2, a3, a4⟩ := h c hc
  unfold bodyK
  rw [List.length_append, size_l]
  cases hM : M c with
  | true =>
    rw [empty_size ((hG c hc).2.2.2.2.2.2.1 hM), Nat.zero_add, a3 hM]
    rfl
  | false =>
    rw [(nxt_facts hG c hc).2.2.2.2 hM, Nat.sub_self, outB_zero, a4 hM]
    rfl
theorem chunk {D : Nat → Int} {n c : Nat} {B : Nat → ByteArray} {H : Nat → List UInt8} (h : c + 1 ≤ nxt D n c) : outB H B c (nxt D n c - c) = H c ++ bodyK D n B H c := by
  rw [show nxt D n c - c = (nxt D n c - (c + 1)) + 1 from by omega, outB_cons, List.append_assoc]
  rfl
theorem tail_at {D : Nat → Int} {n c : Nat} {B : Nat → ByteArray} {H : Nat → List UInt8} (h : c + 1 ≤ nxt D n c) (h' : nxt D n c ≤ n) : outB H B c (n - c) = H c ++ (bodyK D n B H c ++ outB H B (nxt D n c) (n - nxt D n c)) := by
  have e : n - c = (nxt D n c - c) + (n - nxt D n c) := by omega
  rw [e, outB_app, chunk h, List.append_assoc, show c + (nxt D n c - c) = nxt D n c from by omega]
theorem drop_at (n c : Nat) (B : Nat → ByteArray) (H : Nat → List UInt8) (h1 : 1 ≤ c) (h2 : c ≤ n) : (outB H B 1 (n - 1)).drop (byB H B 1 c) = outB H B c (n - c) := by
  rw [show n - 1 = (c - 1) + (n - c) from by omega, outB_app]
  unfold byB
  rw [List.drop_left, show 1 + (c - 1) = c from by omega]
theorem by_next {n : Nat} {D C T : Nat → Int} {M : Nat → Bool} {B : Nat → ByteArray} {H : Nat → List UInt8} {L : Nat → Nat} (hG : ∀ i, i < n → Good D C T M B i) (h : SpF n D C T M B H L) (c : Nat) (h1 : 1 ≤ c) (hc : c < n) : byB H B 1 (nxt D n c) = byB H B 1 c + (2 + ll (L c)) + L c := by
  obtain ⟨f1, f2, _⟩ := nxt_facts hG c hc
  rw [byB_add H B 1 c (nxt D n c) h1 (by omega)]
  have : byB H B c (nxt D n c) = (H c ++ bodyK D n B H c).length := by unfold byB; rw [chunk f1]
  rw [this, List.length_append, bodyK_len hG h c hc, (h c hc).1, hdrL_len]
  omega
/-- The element that a part is met as. -/
def elK (D C T : Nat → Int) (M : Nat → Bool) (n : Nat) (B : Nat → ByteArray) (H : Nat → List UInt8) (c : Nat) : Elm := ⟨(C c).toNat, M c, (T c).toNat, S (bodyK D n B H c)⟩
theorem spl_one {n : Nat} {D C T : Nat → Int} {M : Nat → Bool} {B : Nat → ByteArray} {H : Nat → List UInt8} {L : Nat → Nat} (hG : ∀ i, i < n → Good D C T M B i) (h : SpF n D C T M B H L) (c : Nat) (h1 : 1 ≤ c) (hc : c < n) (f : Nat) :
    spl (S (outB H B 1 (n - 1))) (f + 1) (byB H B 1 c) = ahead [elK D C T M n B H c] (spl (S (outB H B 1 (n - 1))) f (byB H B 1 (nxt D n c))) := by
  obtain ⟨f1, f2, _⟩ := nxt_facts hG c hc
  obtain ⟨a1, a2, a3, a4⟩ := h c hc
  obtain ⟨g1, g2, g3, g4, _⟩ := hG c hc
  have hn := by_next hG h c h1 hc
  have hd := drop_at n c B H h1 (by omega)
  rw [tail_at f1 f2, a1] at hd
  have hbl := bodyK_len hG h c hc
  have hlen : byB H B 1 (nxt D n c) ≤ (outB H B 1 (n - 1)).length := by
    have := byB_add H B 1 (nxt D n c) n (by omega) f2
    have e : byB H B 1 n = (outB H B 1 (n - 1)).length := rfl
    omega
  have hw : wAt (S (outB H B 1 (n - 1))).data.toList (byB H B 1 c) (S (outB H B 1 (n - 1))).size = .ok ⟨(C c).toNat, M c, (T c).toNat, L c, 2 + ll (L c)⟩ := by
    rw [S_l, S_size]
    have hh : hAt (outB H B 1 (n - 1)) (byB H B 1 c) (outB H B 1 (n - 1)).length = .ok ⟨(C c).toNat, M c, (T c).toNat, L c, 2 + ll (L c)⟩ := by
      refine hAt_shift _ _ _ _ (by omega) ?_
      rw [hd]
      exact hAt_hdr _ _ _ _ _ _ _ (by omega) (by omega) a2 (by omega)
    unfold wAt
    rw [hh]
    dsimp only
    rw [if_neg (by omega)]
  have e2 : (S (outB H B 1 (n - 1))).extract (byB H B 1 c + (2 + ll (L c))) (byB H B 1 c + (2 + ll (L c)) + L c) = S (bodyK D n B H c) := by
    rw [← S_of ((S (outB H B 1 (n - 1))).extract (byB H B 1 c + (2 + ll (L c))) (byB H B 1 c + (2 + ll (L c)) + L c))]
    congr 1
    rw [extr_b, S_l, List.drop_take, show byB H B 1 c + (2 + ll (L c)) + L c - (byB H B 1 c + (2 + ll (L c))) = L c from by omega, ← List.drop_drop, hd]
    rw [show 2 + ll (L c) = (hdrL (C c).toNat (M c) (T c).toNat (L c) (ll (L c))).length from (hdrL_len _ _ _ _ _).symm, List.drop_left, ← hbl, List.take_left]
  have hE : elOf (S (outB H B 1 (n - 1))) ⟨(C c).toNat, M c, (T c).toNat, L c, 2 + ll (L c)⟩ (byB H B 1 c) = elK D C T M n B H c := by
    unfold elOf elK
    rw [e2]
  rw [spl_ok _ f _ _ (by rw [S_size]; omega) hw, hE, hn]
/-- The parts' beginnings, one behind the other. -/
def itN (D : Nat → Int) (n : Nat) : Nat → Nat → Nat
  | 0, c => c
  | i + 1, c => itN D n i (nxt D n c)
theorem itN_succ (D : Nat → Int) (n : Nat) : ∀ i c, itN D n (i + 1) c = nxt D n (itN D n i c)
  | 0, c => rfl
  | i + 1, c => itN_succ D n i (nxt D n c)
theorem itN_all {n : Nat} {D C T : Nat → Int} {M : Nat → Bool} {B : Nat → ByteArray} (hG : ∀ i, i < n → Good D C T M B i) : ∀ (d c : Nat), n - c ≤ d → 1 ≤ c → c ≤ n → ∃ N, N ≤ n - c ∧ (∀ i, i < N → 1 ≤ itN D n i c ∧ itN D n i c < n) ∧ itN D n N c = n
  | 0, c, h, h1, h2 => ⟨0, Nat.zero_le _, fun i hi => by omega, by show c = n; omega⟩
  | d + 1, c, h, h1, h2 => by
    by_cases q : c = n
    · exact ⟨0, Nat.zero_le _, fun i hi => by omega, q⟩
    · obtain ⟨f1, f2, _⟩ := nxt_facts hG c (by omega)
      obtain ⟨N, q1, q2, q3⟩ := itN_all hG d (nxt D n c) (by omega) (by omega) f2
      refine ⟨N + 1, by omega, fun i hi => ?_, q3⟩
      cases i with
      | zero => exact ⟨h1, by show c < n; omega⟩
      | succ i => exact q2 i (by omega)
theorem spl_all {n : Nat} {D C T : Nat → Int} {M : Nat → Bool} {B : Nat → ByteArray} {H : Nat → List UInt8} {L : Nat → Nat} (hG : ∀ i, i < n → Good D C T M B i) (h : SpF n D C T M B H L) : ∀ (N c f : Nat), N < f → (∀ i, i < N → 1 ≤ itN D n i c ∧ itN D n i c < n) → itN D n N c = n →
    spl (S (outB H B 1 (n - 1))) f (byB H B 1 c) = .ok ((List.range N).map (fun i => elK D C T M n B H (itN D n i c)))
  | 0, c, f, hf, _, he => by
    obtain ⟨f', rfl⟩ : ∃ f', f = f' + 1 := ⟨f - 1, by omega⟩
    rw [spl_end _ _ _ (by
      rw [S_size]
      have e : c = n := he
      subst e
      exact Nat.le_refl _)]
    rfl
  | N + 1, c, f, hf, hi, he => by
    obtain ⟨f', rfl⟩ : ∃ f', f = f' + 1 := ⟨f - 1, by omega⟩
    have h0 := hi 0 (Nat.succ_pos _)
    rw [spl_one hG h c h0.1 h0.2 f', spl_all hG h N (nxt D n c) f' (by omega) (fun i hi' => hi (i + 1) (by omega)) he, List.range_succ_eq_map, List.map_cons, List.map_map]
    rfl
end Go.Proofs.Ytgfonnjblbpogaa
