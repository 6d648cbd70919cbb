import Derived.Test.YtgfonnjblbpogaaBwWr
import Derived.Test.YtgfonnjblbpogaaBwFm
import Derived.Test.YtgfonnjblbpogaaBwL
import Derived.Test.YtgfonnjblbpogaaBSpX
import Derived.Test.YtgfonnjblbpogaaBwSm
import Derived.Lib.AppendZeros
import Derived.Test.YtgfonnjblbpogaaBJoin5
import Derived.Test.YtgfonnjblbpogaaBHead4
import Derived.Test.YtgfonnjblbpogaaBhSou2
import Derived.BigQuiet
namespace Go.Proofs.Ytgfonnjblbpogaa
open Go.RowKit
open BerMath (Hd HR num hAt wAt)
set_option linter.unusedVariables false

/-- The headers of a list, each in its shortest form. -/
def SpF (n : Nat) (D C T : Nat → Int) (M : Nat → Bool) (B : Nat → ByteArray) (H : Nat → List UInt8) (L : Nat → Nat) : Prop :=
  ∀ j, j < n → H j = hdrL (C j).toNat (M j) (T j).toNat (L j) (ll (L j)) ∧ Says (L j) (ll (L j)) ∧ (M j = true → L j = byB H B (j + 1) (idx D (D j + 1) (n - (j + 1)) (j + 1))) ∧ (M j = false → L j = (B j).size)
theorem spF_of {n : Nat} {D C T : Nat → Int} {M : Nat → Bool} {B : Nat → ByteArray} {σ : List Nat} {H : Nat → List UInt8} (hI : SpI n 0 D C T M B σ H) (hS : ∀ j, j < n → ∃ len, H j = hdrL (C j).toNat (M j) (T j).toNat len (ll len) ∧ len ≤ 67108864) : ∃ L, SpF n D C T M B H L := by
  have hX := hI.2.2.2.2.2.2.2
  have h : ∀ j, ∃ l, j < n → H j = hdrL (C j).toNat (M j) (T j).toNat l (ll l) ∧ Says l (ll l) ∧ (M j = true → l = byB H B (j + 1) (idx D (D j + 1) (n - (j + 1)) (j + 1))) ∧ (M j = false → l = (B j).size) := fun j => by
    by_cases hj : j < n
    · obtain ⟨len, e, hle⟩ := hS j hj
      obtain ⟨l1, k1, p1, p2, p3, p4⟩ := hX j (Nat.zero_le _) hj
      have s' : Says len (ll len) := says_wide len (by omega)
      obtain ⟨e1, e2⟩ := hdr_inj (p1.symm.trans e) p2 s'
      subst e1
      exact ⟨l1, fun _ => ⟨e, s', p3, p4⟩⟩
    · exact ⟨0, fun q => absurd q hj⟩
  obtain ⟨f, hf⟩ := Classical.axiomOfChoice h
  exact ⟨f, fun j hj => hf j hj⟩
theorem outB_eq {H H' : Nat → List UInt8} {B B' : Nat → ByteArray} : ∀ (m s s' : Nat), (∀ j, j < m → H (s + j) = H' (s' + j) ∧ B (s + j) = B' (s' + j)) → outB H B s m = outB H' B' s' m
  | 0, _, _, _ => rfl
  | m + 1, s, s', h => by
    have h0 := h 0 (Nat.succ_pos _)
    rw [Nat.add_zero, Nat.add_zero] at h0
    rw [outB_cons, outB_cons, h0.1, h0.2, outB_eq m (s + 1) (s' + 1) (fun j hj => by
      have := h (j + 1) (by omega)
      rw [show s + 1 + j = s + (j + 1) from by omega, show s' + 1 + j = s' + (j + 1) from by omega]
      exact this)]
theorem spF_uniq {n : Nat} {D C T : Nat → Int} {M : Nat → Bool} {B : Nat → ByteArray} {H H' : Nat → List UInt8} {L L' : Nat → Nat} (h : SpF n D C T M B H L) (h' : SpF n D C T M B H' L') : ∀ (d j : Nat), n - j ≤ d → j < n → H j = H' j
  | 0, j, h1, h2 => by omega
  | d + 1, j, h1, h2 => by
    obtain ⟨a1, a2, a3, a4⟩ := h j h2
    obtain ⟨b1, b2, b3, b4⟩ := h' j h2
    have el : L j = L' j := by
      cases hM : M j with
      | false => rw [a4 hM, b4 hM]
      | true =>
        rw [a3 hM, b3 hM]
        have hi := idx_ge D (D j + 1) (n - (j + 1)) (j + 1)
        unfold byB
        rw [outB_eq (H := H) (H' := H') (B := B) (B' := B) _ (j + 1) (j + 1) (fun i hi' => ⟨spF_uniq h h' d (j + 1 + i) (by omega) (by omega), rfl⟩)]
    rw [a1, b1, el]
/-- A part of the list, shifted. -/
theorem idx_part {D : Nat → Int} {c m n : Nat} {x : Int} (hmn : c + m ≤ n) (he : c + m < n → D (c + m) < x) : ∀ (k K : Nat), K + k = m → c + idx (fun j => D (c + j) - 1) (x - 1) k K = idx D x (n - (c + K)) (c + K)
  | 0, K, h => by
    show c + K = _
    rw [idx_here D x (n - (c + K)) (c + K) (by
      by_cases q : c + m < n
      · right; have := he q; rw [show c + K = c + m from by omega]; exact this
      · left; omega)]
  | k + 1, K, h => by
    have hlt : c + K < n := by omega
    rw [show n - (c + K) = (n - (c + (K + 1))) + 1 from by omega]
    show c + (if D (c + K) - 1 < x - 1 then K else idx (fun j => D (c + j) - 1) (x - 1) k (K + 1)) = (if D (c + K) < x then c + K else idx D x (n - (c + (K + 1))) (c + K + 1))
    by_cases q : D (c + K) < x
    · rw [if_pos (by omega), if_pos q]
    · rw [if_neg (by omega), if_neg q]
      exact idx_part hmn he k (K + 1) (by omega)
/-- Where the part that begins at c ends. -/
def nxt (D : Nat → Int) (n c : Nat) : Nat := idx D (D c + 1) (n - (c + 1)) (c + 1)
theorem spF_part {n : Nat} {D C T : Nat → Int} {M : Nat → Bool} {B : Nat → ByteArray} {H : Nat → List UInt8} {L : Nat → Nat} (h : SpF n D C T M B H L) {c m : Nat} (hmn : c + m ≤ n) (he : ∀ j, j < m → c + m < n → D (c + m) < D (c + j) + 1) :
    SpF m (fun j => D (c + j) - 1) (fun j => C (c + j)) (fun j => T (c + j)) (fun j => M (c + j)) (fun j => B (c + j)) (fun j => H (c + j)) (fun j => L (c + j)) := fun j hj => by
  obtain ⟨a1, a2, a3, a4⟩ := h (c + j) (by omega)
  refine ⟨a1, a2, fun hM => ?_, a4⟩
  dsimp only
  rw [a3 hM]
  have hi := idx_part (D := D) (c := c) (m := m) (n := n) (x := D (c + j) + 1) hmn (he j hj) (m - (j + 1)) (j + 1) (by omega)
  rw [show D (c + j) + 1 - 1 = D (c + j) - 1 + 1 from by omega] at hi
  rw [show c + j + 1 = c + (j + 1) from by omega, ← hi]
  unfold byB
  congr 1
  rw [show c + idx (fun j => D (c + j) - 1) (D (c + j) - 1 + 1) (m - (j + 1)) (j + 1) - (c + (j + 1)) = idx (fun j => D (c + j) - 1) (D (c + j) - 1 + 1) (m - (j + 1)) (j + 1) - (j + 1) from by omega]
  exact outB_eq _ _ _ (fun i _ => ⟨by rw [show c + (j + 1) + i = c + (j + 1 + i) from by omega], by rw [show c + (j + 1) + i = c + (j + 1 + i) from by omega]⟩)
theorem good_part {n : Nat} {D C T : Nat → Int} {M : Nat → Bool} {B : Nat → ByteArray} (hG : ∀ i, i < n → Good D C T M B i) {c m : Nat} (hmn : c + m ≤ n) (h2 : D c = 2) (hin : ∀ j, 0 < j → j < m → 3 ≤ D (c + j)) :
    ∀ j, j < m → Good (fun j => D (c + j) - 1) (fun j => C (c + j)) (fun j => T (c + j)) (fun j => M (c + j)) (fun j => B (c + j)) j := fun j hj => by
  obtain ⟨g1, g2, g3, g4, g5, g6, g7, g8, g9⟩ := hG (c + j) (by omega)
  have hd : 2 ≤ D (c + j) := by
    rcases Nat.eq_zero_or_pos j with e | e
    · subst e; rw [Nat.add_zero, h2]; exact Int.le_refl _
    · have := hin j e hj; omega
  refine ⟨g1, g2, g3, g4, by dsimp only; omega, by dsimp only; omega, g7, fun e => ?_, fun i e => ?_⟩
  · subst e; dsimp only; rw [Nat.add_zero, h2]; rfl
  · subst e
    obtain ⟨q1, q2, q3⟩ := g9 (c + i) (by omega)
    have := hin (i + 1) (by omega) hj
    exact ⟨by dsimp only; omega, by dsimp only; rw [show c + (i + 1) = c + i + 1 from by omega] at *; omega, fun q => q3 (by dsimp only at q; rw [show c + (i + 1) = c + i + 1 from by omega] at *; omega)⟩
theorem bsum_part (B : Nat → ByteArray) (c : Nat) : ∀ m, bsum (fun j => B (c + j)) m + bsum B c = bsum B (c + m)
  | 0 => by show 0 + _ = _; rw [Nat.zero_add]; rfl
  | m + 1 => by
    have := bsum_part B c m
    show bsum (fun j => B (c + j)) m + (B (c + m)).size + 6 + bsum B c = bsum B (c + m) + (B (c + m)).size + 6
    omega
/-- What a part holds. -/
theorem nxt_facts {n : Nat} {D C T : Nat → Int} {M : Nat → Bool} {B : Nat → ByteArray} (hG : ∀ i, i < n → Good D C T M B i) (c : Nat) (hc : c < n) :
    c + 1 ≤ nxt D n c ∧ nxt D n c ≤ n ∧ (∀ t, c + 1 ≤ t → t < nxt D n c → D c + 1 ≤ D t) ∧ (nxt D n c < n → D (nxt D n c) < D c + 1) ∧ (M c = false → nxt D n c = c + 1) := by
  obtain ⟨h1, h2⟩ := idx_ge D (D c + 1) (n - (c + 1)) (c + 1)
  refine ⟨h1, by unfold nxt; omega, fun t a b => idx_all D (D c + 1) _ _ t a b, fun q => idx_at D (D c + 1) _ _ (by unfold nxt at q; omega), fun hM => ?_⟩
  unfold nxt
  refine idx_here D _ _ _ ?_
  by_cases q : c + 1 < n
  · right
    obtain ⟨_, _, g⟩ := (hG (c + 1) q).2.2.2.2.2.2.2.2 c rfl
    rcases Int.lt_or_le (D c) (D (c + 1)) with u | u
    · rw [g u] at hM; cases hM
    · omega
  · left; omega
def bodyK (D : Nat → Int) (n : Nat) (B : Nat → ByteArray) (H : Nat → List UInt8) (c : Nat) : List UInt8 := (B c).data.toList ++ outB H B (c + 1) (nxt D n c - (c + 1))
theorem bodyK_len {n : Nat} {D C T : Nat → Int} {M : Nat → Bool} {B : Nat → ByteArray} {H : Nat → List UInt8} {L : Nat → Nat} (hG : ∀ i, i < n → Good D C T M B i) (h : SpF n D C T M B H L) (c : Nat) (hc : c < n) : (bodyK D n B H c).length = L c := by
  obtain ⟨a1, a2, a3, a4⟩ := h c hc
  unfold bodyK
  rw [List.length_append, size_l]
  cases hM : M c with
  | true =>
    rw [empty_size ((hG c hc).2.2.2.2.2.2.1 hM), Nat.zero_add, a3 hM]
    rfl
  | false =>
    rw [(nxt_facts hG c hc).2.2.2.2 hM, Nat.sub_self, outB_zero, a4 hM]
    rfl
theorem chunk {D : Nat → Int} {n c : Nat} {B : Nat → ByteArray} {H : Nat → List UInt8} (h : c + 1 ≤ nxt D n c) : outB H B c (nxt D n c - c) = H c ++ bodyK D n B H c := by
  rw [show nxt D n c - c = (nxt D n c - (c + 1)) + 1 from by omega, outB_cons, List.append_assoc]
  rfl
theorem tail_at {D : Nat → Int} {n c : Nat} {B : Nat → ByteArray} {H : Nat → List UInt8} (h : c + 1 ≤ nxt D n c) (h' : nxt D n c ≤ n) : outB H B c (n - c) = H c ++ (bodyK D n B H c ++ outB H B (nxt D n c) (n - nxt D n c)) := by
  have e : n - c = (nxt D n c - c) + (n - nxt D n c) := by omega
  rw [e, outB_app, chunk h, List.append_assoc, show c + (nxt D n c - c) = nxt D n c from by omega]
theorem drop_at (n c : Nat) (B : Nat → ByteArray) (H : Nat → List UInt8) (h1 : 1 ≤ c) (h2 : c ≤ n) : (outB H B 1 (n - 1)).drop (byB H B 1 c) = outB H B c (n - c) := by
  rw [show n - 1 = (c - 1) + (n - c) from by omega, outB_app]
  unfold byB
  rw [List.drop_left, show 1 + (c - 1) = c from by omega]
theorem by_next {n : Nat} {D C T : Nat → Int} {M : Nat → Bool} {B : Nat → ByteArray} {H : Nat → List UInt8} {L : Nat → Nat} (hG : ∀ i, i < n → Good D C T M B i) (h : SpF n D C T M B H L) (c : Nat) (h1 : 1 ≤ c) (hc : c < n) : byB H B 1 (nxt D n c) = byB H B 1 c + (2 + ll (L c)) + L c := by
  obtain ⟨f1, f2, _⟩ := nxt_facts hG c hc
  rw [byB_add H B 1 c (nxt D n c) h1 (by omega)]
  have : byB H B c (nxt D n c) = (H c ++ bodyK D n B H c).length := by unfold byB; rw [chunk f1]
  rw [this, List.length_append, bodyK_len hG h c hc, (h c hc).1, hdrL_len]
  omega
/-- The element that a part is met as. -/
def elK (D C T : Nat → Int) (M : Nat → Bool) (n : Nat) (B : Nat → ByteArray) (H : Nat → List UInt8) (c : Nat) : Elm := ⟨(C c).toNat, M c, (T c).toNat, S (bodyK D n B H c)⟩
theorem spl_one {n : Nat} {D C T : Nat → Int} {M : Nat → Bool} {B : Nat → ByteArray} {H : Nat → List UInt8} {L : Nat → Nat} (hG : ∀ i, i < n → Good D C T M B i) (h : SpF n D C T M B H L) (c : Nat) (h1 : 1 ≤ c) (hc : c < n) (f : Nat) :
    spl (S (outB H B 1 (n - 1))) (f + 1) (byB H B 1 c) = ahead [elK D C T M n B H c] (spl (S (outB H B 1 (n - 1))) f (byB H B 1 (nxt D n c))) := by
  obtain ⟨f1, f2, _⟩ := nxt_facts hG c hc
  obtain ⟨a1, a2, a3, a4⟩ := h c hc
  obtain ⟨g1, g2, g3, g4, _⟩ := hG c hc
  have hn := by_next hG h c h1 hc
  have hd := drop_at n c B H h1 (by omega)
  rw [tail_at f1 f2, a1] at hd
  have hbl := bodyK_len hG h c hc
  have hlen : byB H B 1 (nxt D n c) ≤ (outB H B 1 (n - 1)).length := by
    have := byB_add H B 1 (nxt D n c) n (by omega) f2
    have e : byB H B 1 n = (outB H B 1 (n - 1)).length := rfl
    omega
  have hw : wAt (S (outB H B 1 (n - 1))).data.toList (byB H B 1 c) (S (outB H B 1 (n - 1))).size = .ok ⟨(C c).toNat, M c, (T c).toNat, L c, 2 + ll (L c)⟩ := by
    rw [S_l, S_size]
    have hh : hAt (outB H B 1 (n - 1)) (byB H B 1 c) (outB H B 1 (n - 1)).length = .ok ⟨(C c).toNat, M c, (T c).toNat, L c, 2 + ll (L c)⟩ := by
      refine hAt_shift _ _ _ _ (by omega) ?_
      rw [hd]
      exact hAt_hdr _ _ _ _ _ _ _ (by omega) (by omega) a2 (by omega)
    unfold wAt
    rw [hh]
    dsimp only
    rw [if_neg (by omega)]
  have e2 : (S (outB H B 1 (n - 1))).extract (byB H B 1 c + (2 + ll (L c))) (byB H B 1 c + (2 + ll (L c)) + L c) = S (bodyK D n B H c) := by
    rw [← S_of ((S (outB H B 1 (n - 1))).extract (byB H B 1 c + (2 + ll (L c))) (byB H B 1 c + (2 + ll (L c)) + L c))]
    congr 1
    rw [extr_b, S_l, List.drop_take, show byB H B 1 c + (2 + ll (L c)) + L c - (byB H B 1 c + (2 + ll (L c))) = L c from by omega, ← List.drop_drop, hd]
    rw [show 2 + ll (L c) = (hdrL (C c).toNat (M c) (T c).toNat (L c) (ll (L c))).length from (hdrL_len _ _ _ _ _).symm, List.drop_left, ← hbl, List.take_left]
  have hE : elOf (S (outB H B 1 (n - 1))) ⟨(C c).toNat, M c, (T c).toNat, L c, 2 + ll (L c)⟩ (byB H B 1 c) = elK D C T M n B H c := by
    unfold elOf elK
    rw [e2]
  rw [spl_ok _ f _ _ (by rw [S_size]; omega) hw, hE, hn]
/-- The parts' beginnings, one behind the other. -/
def itN (D : Nat → Int) (n : Nat) : Nat → Nat → Nat
  | 0, c => c
  | i + 1, c => itN D n i (nxt D n c)
theorem itN_succ (D : Nat → Int) (n : Nat) : ∀ i c, itN D n (i + 1) c = nxt D n (itN D n i c)
  | 0, c => rfl
  | i + 1, c => itN_succ D n i (nxt D n c)
theorem itN_all {n : Nat} {D C T : Nat → Int} {M : Nat → Bool} {B : Nat → ByteArray} (hG : ∀ i, i < n → Good D C T M B i) : ∀ (d c : Nat), n - c ≤ d → 1 ≤ c → c ≤ n → ∃ N, N ≤ n - c ∧ (∀ i, i < N → 1 ≤ itN D n i c ∧ itN D n i c < n) ∧ itN D n N c = n
  | 0, c, h, h1, h2 => ⟨0, Nat.zero_le _, fun i hi => by omega, by show c = n; omega⟩
  | d + 1, c, h, h1, h2 => by
    by_cases q : c = n
    · exact ⟨0, Nat.zero_le _, fun i hi => by omega, q⟩
    · obtain ⟨f1, f2, _⟩ := nxt_facts hG c (by omega)
      obtain ⟨N, q1, q2, q3⟩ := itN_all hG d (nxt D n c) (by omega) (by omega) f2
      refine ⟨N + 1, by omega, fun i hi => ?_, q3⟩
      cases i with
      | zero => exact ⟨h1, by show c < n; omega⟩
      | succ i => exact q2 i (by omega)
theorem spl_all {n : Nat} {D C T : Nat → Int} {M : Nat → Bool} {B : Nat → ByteArray} {H : Nat → List UInt8} {L : Nat → Nat} (hG : ∀ i, i < n → Good D C T M B i) (h : SpF n D C T M B H L) : ∀ (N c f : Nat), N < f → (∀ i, i < N → 1 ≤ itN D n i c ∧ itN D n i c < n) → itN D n N c = n →
    spl (S (outB H B 1 (n - 1))) f (byB H B 1 c) = .ok ((List.range N).map (fun i => elK D C T M n B H (itN D n i c)))
  | 0, c, f, hf, _, he => by
    obtain ⟨f', rfl⟩ : ∃ f', f = f' + 1 := ⟨f - 1, by omega⟩
    rw [spl_end _ _ _ (by
      rw [S_size]
      have e : c = n := he
      subst e
      exact Nat.le_refl _)]
    rfl
  | N + 1, c, f, hf, hi, he => by
    obtain ⟨f', rfl⟩ : ∃ f', f = f' + 1 := ⟨f - 1, by omega⟩
    have h0 := hi 0 (Nat.succ_pos _)
    rw [spl_one hG h c h0.1 h0.2 f', spl_all hG h N (nxt D n c) f' (by omega) (fun i hi' => hi (i + 1) (by omega)) he, List.range_succ_eq_map, List.map_cons, List.map_map]
    rfl
end Go.Proofs.Ytgfonnjblbpogaa

namespace Go.Proofs.Ytgfonnjblbpogaa
open Go.RowKit
set_option linter.unusedVariables false

theorem nodesL_snoc (m : Nat) (D C T : Nat → Int) (M : Nat → Bool) (B : Nat → ByteArray) : nodesL (m + 1) D C T M B = nodesL m D C T M B ++ [⟨D m, C m, M m, T m, B m⟩] := by
  unfold nodesL
  rw [List.range_succ, List.map_append]
  rfl
theorem wr_dn (d : Int) (h : 1 ≤ d) (h' : d ≤ 64) : wrap64 (d - 1) = d - 1 := by unfold wrap64; omega
theorem wr_upk (k : Nat) (h : k ≤ 140737488355328) : wrap64 ((k : Int) + 1) = ((k + 1 : Nat) : Int) := by unfold wrap64; omega
theorem wr_addk (a b : Nat) (h : a + b ≤ 140737488355328) : wrap64 ((a : Int) + (b : Int)) = ((a + b : Nat) : Int) := by unfold wrap64; omega
theorem meas_dn (n k kk : Nat) (h : k < n) (e : kk = k + 1) : n - (intOf (.int .i64 (kk : Int))).toNat < n - (intOf (.int .i64 (k : Int))).toNat := by
  subst e
  simp [intOf]
  omega

set_option maxRecDepth 100000 in
set_option maxHeartbeats 4000000 in
theorem lifted_any (a : Option Addr) (n c : Nat) (D C T : Nat → Int) (M : Nat → Bool) (B : Nat → ByteArray) (at' : Nat) (w : World) (hn : IsNodes w a n D C T M B) (hG : ∀ i, i < n → Good D C T M B i) (hat : at' < n) (h2 : D at' = 2) (hnn : n ≤ 67108864) :
    Calls Try.prog 18 #[.slice a n c, .int .i64 (at' : Int)] w fun r w' => ∃ v, r = .returned (.tuple #[v, .int .i64 (nxt D n at' : Int)]) ∧ OwnN w' w.heap.size v (nodesL (nxt D n at' - at') (fun j => D (at' + j) - 1) (fun j => C (at' + j)) (fun j => T (at' + j)) (fun j => M (at' + j)) (fun j => B (at' + j))) ∧ Below w.heap.size w w' := by
  obtain ⟨f1, f2, f3, f4, _⟩ := nxt_facts hG at' hat
  obtain ⟨e, he⟩ : ∃ e, nxt D n at' = e := ⟨_, rfl⟩
  rw [he] at f1 f2 f3 f4 ⊢
  rw [h2] at f3 f4
  have HH : Hid (IsNodes w a n D C T M B ∧ (∀ i, i < n → Good D C T M B i) ∧ n ≤ 67108864 ∧ (∀ t, at' + 1 ≤ t → t < e → 2 + 1 ≤ D t) ∧ (e < n → D e < 2 + 1) ∧ at' + 1 ≤ e ∧ e ≤ n) := ⟨hn, hG, hnn, f3, f4, f1, f2⟩
  clear hn hG hnn f3 f4 f1 f2 h2 hat he
  go_enter Try.func18, Try.ntmps18
  go_wp2_with fail
  go_loopw [6, 7] (fun lv kv wr => ∃ (k : Nat) (v : Value), lv = v ∧ kv = .int .i64 (k : Int) ∧ at' ≤ k ∧ k ≤ e ∧ Hid (OwnN wr w.heap.size v (nodesL (k - at') (fun j => D (at' + j) - 1) (fun j => C (at' + j)) (fun j => T (at' + j)) (fun j => M (at' + j)) (fun j => B (at' + j))) ∧ Below w.heap.size w wr)) (fun _ kv _ => n - (intOf kv).toNat)
  case atStart => exact ⟨at', _, rfl, rfl, Nat.le_refl _, by have := HH.out.2.2.2.2.2.1; omega, by rw [Nat.sub_self]; exact ownN_nil _ _, Below.refl _ _⟩
  case round =>
    obtain ⟨k, v, hv, rfl, hk1, hk2, HO⟩ := hrel
    have hv' := hv.symm
    clear hv
    subst hv'
    have k0 : (0 : Int) ≤ (k : Int) := Int.natCast_nonneg _
    obtain ⟨_, _, hnn, f3, f4, f1, f2⟩ := HH.out
    by_cases hlt : k < e
    · have k1 : (k : Int) < (n : Int) := by omega
      have hkn : k < n := by omega
      obtain ⟨b, off, rfl, c0, c1, c2, c3, c4⟩ := (HH.out.1.below HO.out.2) k hkn
      obtain ⟨gd1, gd2, gd3, gd4, gd5, gd6, _⟩ := HH.out.2.1 k hkn
      have hgo : Hid (((k : Int) == (at' : Int)) = true ∨ (((k : Int) == (at' : Int)) = false ∧ 2 < D k)) := by
        unfold Hid
        rcases Nat.lt_or_ge at' k with q | q
        · exact Or.inr ⟨by rw [beq_eq_false_iff_ne]; omega, by have := f3 k (by omega) hlt; omega⟩
        · exact Or.inl (by rw [show k = at' from by omega]; simp)
      obtain ⟨kk, hkk⟩ : ∃ kk, kk = k + 1 := ⟨_, rfl⟩
      have hwk : Hid (wrap64 ((k : Int) + 1) = (kk : Int)) := by unfold Hid; rw [hkk]; exact wr_upk k (by omega)
      obtain ⟨d, hd⟩ : ∃ d, D k = d := ⟨_, rfl⟩
      obtain ⟨dm, hdm⟩ : ∃ dm, dm = D k - 1 := ⟨_, rfl⟩
      have hwd : Hid (wrap64 (d - 1) = dm) := by unfold Hid; rw [hdm, ← hd]; exact wr_dn (D k) gd5 gd6
      rw [hd] at c0 hgo
      obtain ⟨W2, hW2⟩ : ∃ W2, wr.alloc (.cells #[.int .i64 dm, .int .i64 (C k), .bool (M k), .int .i64 (T k), .string (B k)] 39) = W2 := ⟨_, rfl⟩
      have hb2 : Below wr.heap.size wr W2 := by rw [← hW2]; exact (Below.refl _ _).alloc (Nat.le_refl _) _
      obtain ⟨W3, hW3⟩ : ∃ W3, W2.alloc (.cells #[.int .i64 dm, .int .i64 (C k), .bool (M k), .int .i64 (T k), .string (B k)] 39) = W3 := ⟨_, rfl⟩
      have hb3 : Below W2.heap.size W2 W3 := by rw [← hW3]; exact (Below.refl _ _).alloc (Nat.le_refl _) _
      have hs2 : W2.heap.size = wr.heap.size + 1 := by rw [← hW2]; simp
      have hsw := HO.out.2.size
      have hb13 : Below w.heap.size w W3 := (HO.out.2.trans (hb2.mono hsw)).trans (hb3.mono (by omega))
      have hg3 : W3.heap[W2.heap.size]? = some (.cells #[.int .i64 dm, .int .i64 (C k), .bool (M k), .int .i64 (T k), .string (B k)] 39 (0, 0)) := by rw [← hW3]; exact World.alloc_heap_new W2 _
      have hlen : (nodesL (k - at') (fun j => D (at' + j) - 1) (fun j => C (at' + j)) (fun j => T (at' + j)) (fun j => M (at' + j)) (fun j => B (at' + j))).length ≤ 4294967296 := by rw [nodesL_len]; omega
      obtain ⟨g', cap, W4, e4, o4, gr4⟩ := appendN_one W3 w.heap.size v _ ⟨dm, C k, M k, T k, B k⟩ W2.heap.size (ownN_below (ownN_below HO.out.1 hb2) hb3) hg3 hb13.size hlen
      have hb4 : Below w.heap.size W3 W4 := (Below.refl _ _).grown gr4 hb13.size (fun j hj => (World.ownsRow.lt (show W3.ownsRow w.heap.size 39 5 v _ (nv _) from ownN_below (ownN_below HO.out.1 hb2) hb3) _ hj).1)
      rw [nodesL_len] at e4 o4
      have hfin : Hid (OwnN W4 w.heap.size (.slice (some ⟨g', 0, none⟩) (k - at' + 1) cap) (nodesL (kk - at') (fun j => D (at' + j) - 1) (fun j => C (at' + j)) (fun j => T (at' + j)) (fun j => M (at' + j)) (fun j => B (at' + j))) ∧ Below w.heap.size w W4) := by
        refine ⟨?_, hb13.trans hb4⟩
        rw [show kk - at' = (k - at') + 1 from by omega, nodesL_snoc]
        rw [show at' + (k - at') = k from by omega, ← hdm]
        exact o4
      have hlt' : Hid (k < n ∧ kk ≤ e ∧ at' ≤ kk ∧ kk = k + 1) := ⟨hkn, by omega, by omega, hkk⟩
      have q0 : W2.cell? ⟨wr.heap.size, 0, none⟩ = some (.int .i64 dm) := by rw [← hW2]; simp [go_sem]
      have q1 : W2.cell? ⟨wr.heap.size, 1, none⟩ = some (.int .i64 (C k)) := by rw [← hW2]; simp [go_sem]
      have q2 : W2.cell? ⟨wr.heap.size, 2, none⟩ = some (.bool (M k)) := by rw [← hW2]; simp [go_sem]
      have q3 : W2.cell? ⟨wr.heap.size, 3, none⟩ = some (.int .i64 (T k)) := by rw [← hW2]; simp [go_sem]
      have q4 : W2.cell? ⟨wr.heap.size, 4, none⟩ = some (.string (B k)) := by rw [← hW2]; simp [go_sem]
      have hwd' := hwd.out
      have hwk' := hwk.out
      generalize C k = ck at *
      generalize T k = tk at *
      generalize M k = mk at *
      generalize B k = bk at *
      clear HO HH hb2 hb3 hb13 hb4 hg3 hlen gr4 o4 gd1 gd2 gd3 gd4 gd5 gd6 hd hdm hkk hk1 hk2 hlt hkn hnn f3 f4 f1 f2 hsw hwd hwk hs2
      rcases hgo.out with hq | ⟨hq, hq2⟩
      all_goals
        clear hgo
        go_wp2_with (at_builtin; refine Lib.wpList_append_run _ rfl _ _ _ _ rfl _ _ rfl rfl _ _ e4 ?_; clear e4)
        rw [hwk']
        exact ⟨⟨kk, _, rfl, rfl, hlt'.out.2.2.1, hlt'.out.2.1, hfin.out⟩, meas_dn n k kk hlt'.out.1 hlt'.out.2.2.2⟩
    · obtain rfl : k = e := by omega
      obtain ⟨va, vc, rfl, _⟩ := ownN_any HO.out.1
      rw [nodesL_len] at HO ⊢
      have hwl : Hid (wrap64 ((at' : Int) + ((k - at' : Nat) : Int)) = (k : Int)) := by unfold Hid; rw [wr_addk _ _ (by omega)]; congr 1; omega
      obtain ⟨kl, hkl⟩ : ∃ kl, kl = k - at' := ⟨_, rfl⟩
      have HF : Hid (OwnN wr w.heap.size (.slice va kl vc) (nodesL (k - at') (fun j => D (at' + j) - 1) (fun j => C (at' + j)) (fun j => T (at' + j)) (fun j => M (at' + j)) (fun j => B (at' + j))) ∧ Below w.heap.size w wr) := by rw [hkl]; exact HO.out
      rw [← hkl] at hwl ⊢
      have hwl' := hwl.out
      by_cases hkn : k < n
      · have k1 : (k : Int) < (n : Int) := by omega
        obtain ⟨b, off, rfl, c0, _⟩ := (HH.out.1.below HO.out.2) k hkn
        have hq : ((k : Int) == (at' : Int)) = false := by rw [beq_eq_false_iff_ne]; omega
        have hq2 : ¬ 2 < D k := by have := f4 hkn; omega
        obtain ⟨dk, hdk⟩ : ∃ dk, D k = dk := ⟨_, rfl⟩
        rw [hdk] at c0 hq2
        clear hdk
        clear HH hnn f3 f4 f1 f2 hkl hwl hk1 hk2 hlt hkn
        go_wp2_with fail
        refine bodyPost_ret_by (v := .tuple #[.slice va kl vc, .int .i64 (k : Int)]) (by simp [results, Try.results18]) rfl ⟨_, rfl, HF.out.1, HF.out.2⟩
      · have k1 : ¬ (k : Int) < (n : Int) := by omega
        clear HH hnn f3 f4 f1 f2 hkl hwl hk1 hk2 hlt hkn
        go_wp2_with fail
        refine bodyPost_ret_by (v := .tuple #[.slice va kl vc, .int .i64 (k : Int)]) (by simp [results, Try.results18]) rfl ⟨_, rfl, HF.out.1, HF.out.2⟩
end Go.Proofs.Ytgfonnjblbpogaa

namespace Go.Proofs.Ytgfonnjblbpogaa
open Go.RowKit
open BerMath (Hd HR num hAt wAt)
set_option linter.unusedVariables false

theorem row_isN0 {w : World} {a : Option Addr} {n : Nat} {D C T : Nat → Int} {M : Nat → Bool} {B : Nat → ByteArray} (h : NdRow w a (nodesL n D C T M B)) : IsNodes w a n D C T M B := fun i hi => by
  obtain ⟨b, off, e, h0, h1, h2, h3, h4⟩ := h i (by rw [nodesL_len]; exact hi)
  have hx : (nodesL n D C T M B)[i]'(by rw [nodesL_len]; exact hi) = ⟨D i, C i, M i, T i, B i⟩ := by simp [nodesL]
  rw [hx] at h0 h1 h2 h3 h4
  exact ⟨b, off, e, h0, h1, h2, h3, h4⟩
/-- What Write answers of a list that is a tree. -/
theorem wrE_good {e : Ending} {n : Nat} {D C T : Nat → Int} {M : Nat → Bool} {B : Nat → ByteArray} (h : WrE e n D C T M B) (h0 : 0 < n) (hG : ∀ i, i < n → Good D C T M B i) : WrR e n D C T M B := by
  rcases h with ⟨_, h⟩ | ⟨c, q, hc0, hck, _⟩
  · exact h
  · exfalso
    have hfit := (fit_iff n D C T M B).2 hG
    rcases hck with ⟨_, _, h3, _⟩ | ⟨h1, _⟩ | ⟨i, hi, _, _, ⟨h4, _⟩ | ⟨_, h5, _⟩⟩
    · exact hc0 h3
    · omega
    · exact h4 (hfit i hi).1
    · exact h5 (hfit i hi).2
/-- What is known of a part. -/
theorem part_facts {n : Nat} {D C T : Nat → Int} {M : Nat → Bool} {B : Nat → ByteArray} (hG : ∀ i, i < n → Good D C T M B i) : ∀ (i : Nat), 1 ≤ itN D n i 1 → itN D n i 1 < n → D (itN D n i 1) = 2 := by
  intro i
  cases i with
  | zero =>
    intro _ h
    have h' : 1 < n := h
    show D 1 = 2
    obtain ⟨g1, g2, _⟩ := (hG 1 h').2.2.2.2.2.2.2.2 0 rfl
    have := (hG 0 (by omega)).2.2.2.2.2.2.2.1 rfl
    omega
  | succ i =>
    intro h1 h
    have hge : ∀ j c, c ≤ itN D n j c ∨ True := fun _ _ => Or.inr trivial
    rw [itN_succ] at h ⊢
    have hlt : itN D n i 1 < n := by
      rcases Nat.lt_or_ge (itN D n i 1) n with q | q
      · exact q
      · exfalso
        have := (idx_ge D (D (itN D n i 1) + 1) (n - (itN D n i 1 + 1)) (itN D n i 1 + 1)).1
        unfold nxt at h
        omega
    obtain ⟨f1, f2, f3, f4, _⟩ := nxt_facts hG (itN D n i 1) hlt
    have hpos : ∀ j, 1 ≤ itN D n j 1 := by
      intro j
      induction j with
      | zero => exact Nat.le_refl _
      | succ j ih =>
        rw [itN_succ]
        have := (idx_ge D (D (itN D n j 1) + 1) (n - (itN D n j 1 + 1)) (itN D n j 1 + 1)).1
        unfold nxt
        omega
    have ih := part_facts hG i (hpos i) hlt
    have h4 := f4 h
    obtain ⟨j, hj⟩ : ∃ j, nxt D n (itN D n i 1) = j + 1 := ⟨nxt D n (itN D n i 1) - 1, by omega⟩
    have g := ((hG (nxt D n (itN D n i 1)) h).2.2.2.2.2.2.2.2 j hj).1
    omega
theorem part_write {n : Nat} {D C T : Nat → Int} {M : Nat → Bool} {B : Nat → ByteArray} {H : Nat → List UInt8} {L : Nat → Nat} (hG : ∀ i, i < n → Good D C T M B i) (hF : SpF n D C T M B H L) {c : Nat} (hc : c < n) (h2 : D c = 2) {e : Ending}
    (h : WrE e (nxt D n c - c) (fun j => D (c + j) - 1) (fun j => C (c + j)) (fun j => T (c + j)) (fun j => M (c + j)) (fun j => B (c + j))) :
    e = .returned (.tuple #[.string (S (outB H B c (nxt D n c - c))), .int .i64 0, .int .i64 0]) := by
  obtain ⟨f1, f2, f3, f4, _⟩ := nxt_facts hG c hc
  have hin : ∀ j, 0 < j → j < nxt D n c - c → 3 ≤ D (c + j) := fun j h1 hj => by have := f3 (c + j) (by omega) (by omega); omega
  have hG' := good_part (c := c) (m := nxt D n c - c) hG (by omega) h2 hin
  obtain ⟨H', σ', rfl, hI', hS'⟩ := wrE_good h (by omega) hG'
  obtain ⟨L', hF'⟩ := spF_of hI' hS'
  have hP := spF_part (c := c) (m := nxt D n c - c) hF (by omega) (fun j hj q => by
    rw [show c + (nxt D n c - c) = nxt D n c from by omega] at q ⊢
    have h4 := f4 q
    rcases Nat.eq_zero_or_pos j with z | z
    · subst z; exact h4
    · have := hin j z hj; omega)
  have heq : outB H' (fun j => B (c + j)) 0 (nxt D n c - c) = outB H B c (nxt D n c - c) := outB_eq (nxt D n c - c) 0 c (fun j hj => ⟨by
    rw [Nat.zero_add]
    exact spF_uniq hF' hP (nxt D n c - c) j (by omega) hj, by rw [Nat.zero_add]⟩)
  rw [heq]
theorem ev_at (l : List Elm) (i : Nat) (hi : i < l.length) (j : Nat) (hj : j < 4) : (ev l)[i * 4 + j]? = (eV l[i])[j]? := by
  induction l generalizing i with
  | nil => simp at hi
  | cons x l ih =>
    cases i with
    | zero =>
      show (eV x ++ ev l)[0 * 4 + j]? = _
      rw [List.getElem?_append_left (by simp [eV]; omega)]
      simp
    | succ i =>
      show (eV x ++ ev l)[(i + 1) * 4 + j]? = _
      have e : (i + 1) * 4 + j = (eV x).length + (i * 4 + j) := by simp [eV]; omega
      rw [e, List.getElem?_append_right (by omega), Nat.add_sub_cancel_left, ih i (by simpa using hi)]
      rfl
def ERow (w : World) (a : Option Addr) (l : List Elm) : Prop := ∀ i (hi : i < l.length), ∃ b, a = some ⟨b, 0, none⟩ ∧ w.cell? ⟨b, i * 4, none⟩ = some (.int .i64 (l[i].c : Int)) ∧ w.cell? ⟨b, i * 4 + 1, none⟩ = some (.bool l[i].m) ∧ w.cell? ⟨b, i * 4 + 2, none⟩ = some (.int .i64 (l[i].t : Int)) ∧ w.cell? ⟨b, i * 4 + 3, none⟩ = some (.string l[i].s)
theorem ownE_any {w : World} {B : Nat} {v : Value} {l : List Elm} (h : OwnE w B v l) : ∃ a c, v = .slice a l.length c ∧ ERow w a l := by
  have h0 := h
  rcases h.2 with ⟨rfl, hn⟩ | ⟨g, cap, cur, rfl, _⟩
  · have hl : l = [] := List.eq_nil_of_length_eq_zero hn
    subst hl
    exact ⟨none, 0, rfl, fun i hi => by simp at hi⟩
  · have key : ∀ i (hi : i < l.length) j, j < 4 → w.cell? ⟨g, i * 4 + j, none⟩ = (eV l[i])[j]? := fun i hi j hj => by
      have hc := World.ownsRow.cellAt (show w.ownsRow B 56 4 _ l.length (ev l) from h0) (i * 4 + j) (by omega)
      rw [hc, ev_at l i hi j hj]
    exact ⟨_, _, rfl, fun i hi => ⟨g, rfl, key i hi 0 (by omega), key i hi 1 (by omega), key i hi 2 (by omega), key i hi 3 (by omega)⟩⟩
theorem ERow.below {w w' : World} {a : Option Addr} {l : List Elm} (h : ERow w a l) (hb : Below w.heap.size w w') : ERow w' a l := fun i hi => by
  obtain ⟨b, e, h0, h1, h2, h3⟩ := h i hi
  have hlt : b < w.heap.size := World.block_lt_of_cell? w _ h0
  exact ⟨b, e, (hb.cell hlt).trans h0, (hb.cell hlt).trans h1, (hb.cell hlt).trans h2, (hb.cell hlt).trans h3⟩
theorem len_ge {H : Nat → List UInt8} {B : Nat → ByteArray} : ∀ (m s : Nat), (∀ j, s ≤ j → j < s + m → 0 < (H j).length) → m ≤ (outB H B s m).length
  | 0, _, _ => Nat.zero_le _
  | m + 1, s, h => by
    have h0 := h s (Nat.le_refl _) (by omega)
    have := len_ge (H := H) (B := B) m (s + 1) (fun j a b => h j (by omega) (by omega))
    rw [outB_cons, List.length_append, List.length_append]
    omega
/-- What Join answers of a part. -/
theorem part_join {n : Nat} {D C T : Nat → Int} {M : Nat → Bool} {B : Nat → ByteArray} {H : Nat → List UInt8} {L : Nat → Nat} (hG : ∀ i, i < n → Good D C T M B i) (hF : SpF n D C T M B H L) {c : Nat} (hc : c < n) (hL : L c ≤ 67108864) (w : World) :
    Calls Try.prog 19 #[elV ((C c).toNat : Int) (M c) ((T c).toNat : Int) (S (bodyK D n B H c))] w fun r w' => r = .returned (.tuple #[.string (S (outB H B c (nxt D n c - c))), .int .i64 0]) ∧ Below w.heap.size w w' := by
  obtain ⟨f1, f2, _⟩ := nxt_facts hG c hc
  obtain ⟨g1, g2, g3, g4, _⟩ := hG c hc
  obtain ⟨a1, _⟩ := hF c hc
  have hl := bodyK_len hG hF c hc
  have hfine : fineB ((C c).toNat : Int) ((T c).toNat : Int) = true := by
    unfold fineB
    simp only [Bool.and_eq_true, decide_eq_true_eq]
    omega
  have := join_good (C c).toNat (T c).toNat (M c) (S (bodyK D n B H c)) w (by omega) (by omega) hfine (by rw [S_size]; omega)
  rw [S_size, S_l, hl] at this
  have e : fb (C c).toNat (M c) (T c).toNat :: lenB (L c) ++ bodyK D n B H c = outB H B c (nxt D n c - c) := by
    rw [chunk f1, a1, ← hdr_short]
  rw [e] at this
  exact this
end Go.Proofs.Ytgfonnjblbpogaa

namespace Go.Proofs.Ytgfonnjblbpogaa
open Go.RowKit
open BerMath (Hd HR num hAt wAt)
set_option linter.unusedVariables false

theorem whole_facts {n : Nat} {D C T : Nat → Int} {M : Nat → Bool} {B : Nat → ByteArray} {H : Nat → List UInt8} {L : Nat → Nat} (hG : ∀ i, i < n → Good D C T M B i) (hF : SpF n D C T M B H L) (hn : 0 < n) (hM : M 0 = true) :
    headV (S (outB H B 0 n)) = .tuple #[.agg #[.int .i64 ((C 0).toNat : Int), .bool true, .int .i64 ((T 0).toNat : Int), .int .i64 (L 0 : Int), .int .i64 ((2 + ll (L 0) : Nat) : Int)], .int .i64 0] ∧ (S (outB H B 0 n)).size = 2 + ll (L 0) + L 0 ∧ (S (outB H B 0 n)).extract (2 + ll (L 0)) (S (outB H B 0 n)).size = S (outB H B 1 (n - 1)) := by
  obtain ⟨f1, f2, f3, f4, _⟩ := nxt_facts hG 0 hn
  obtain ⟨g1, g2, g3, g4, _, _, g7, g8, _⟩ := hG 0 hn
  have hx : nxt D n 0 = n := by
    rcases Nat.lt_or_ge (nxt D n 0) n with q | q
    · have h1 := f4 q
      obtain ⟨j, hj⟩ : ∃ j, nxt D n 0 = j + 1 := ⟨nxt D n 0 - 1, by omega⟩
      have h2 := ((hG _ q).2.2.2.2.2.2.2.2 j hj).1
      have := g8 rfl
      omega
    · omega
  obtain ⟨a1, a2, _⟩ := hF 0 hn
  have hc : outB H B 0 n = H 0 ++ bodyK D n B H 0 := by
    have := chunk (D := D) (n := n) (c := 0) (B := B) (H := H) f1
    rw [hx, Nat.sub_zero] at this
    exact this
  have hl := bodyK_len hG hF 0 hn
  have hb : bodyK D n B H 0 = outB H B 1 (n - 1) := by
    unfold bodyK
    rw [hx]
    have : (B 0).data.toList = [] := List.eq_nil_of_length_eq_zero (by rw [size_l]; exact empty_size (g7 hM))
    rw [this, List.nil_append]
  have hs : (S (outB H B 0 n)).size = 2 + ll (L 0) + L 0 := by rw [S_size, hc, List.length_append, hl, a1, hdrL_len]
  refine ⟨?_, hs, ?_⟩
  · have hh : hAt (S (outB H B 0 n)).data.toList 0 (S (outB H B 0 n)).size = .ok ⟨(C 0).toNat, M 0, (T 0).toNat, L 0, 2 + ll (L 0)⟩ := by
      rw [S_l, hs, hc, a1]
      exact hAt_hdr _ _ _ _ _ _ _ (by omega) (by omega) a2 (by omega)
    unfold headV
    rw [hh, hM]
    rfl
  · rw [← S_of ((S (outB H B 0 n)).extract (2 + ll (L 0)) (S (outB H B 0 n)).size), drop_l, S_l, hc, a1, hb, show 2 + ll (L 0) = (hdrL (C 0).toNat (M 0) (T 0).toNat (L 0) (ll (L 0))).length from (hdrL_len _ _ _ _ _).symm, List.drop_left]
theorem ownL_below {w w' : World} {B : Nat} {v : Value} {l : List UInt8} (h : Own w B v l) (hb : Below w.heap.size w w') : Own w' B v l := by
  rcases h with ⟨h1, ⟨rfl, h2⟩ | ⟨g, cap, cur, rfl, h3, h4, h5⟩⟩
  · exact ⟨h1, Or.inl ⟨rfl, h2⟩⟩
  · exact ⟨h1, Or.inr ⟨g, cap, cur, rfl, h3, by rw [hb.block g (Array.getElem?_eq_some_iff.1 h4).1]; exact h4, h5⟩⟩
theorem wr_two (a b c : Nat) (h : a + b = c) (hc : c ≤ 4294967296) : wrap64 ((a : Int) + (b : Int)) = (c : Int) := by unfold wrap64; omega

set_option maxRecDepth 100000 in
set_option maxHeartbeats 4000000 in
theorem berKids_walk (a : Option Addr) (n c : Nat) (D C T : Nat → Int) (M : Nat → Bool) (B : Nat → ByteArray) (w : World) (hn : IsNodes w a n D C T M B) (hl : n ≤ 140737488355328) (hB : ∀ i, i < n → (B i).size ≤ 140737488355328) :
    Calls Try.prog 6 #[.slice a n c] w fun e w' => e = .returned (.bool true) ∧ Below w.heap.size w w' := by
  have HS : Hid (Calls Try.prog 10 #[.slice a n c] w fun e w' => SndR2 e n D C T M B ∧ Below w.heap.size w w') := sound2_any a n c D C T M B w hn hl
  have HH : Hid (IsNodes w a n D C T M B ∧ n ≤ 140737488355328 ∧ (∀ i, i < n → (B i).size ≤ 140737488355328)) := ⟨hn, hl, hB⟩
  clear hn hl hB
  go_enter Try.func6, Try.ntmps6
  go_wp2_with fail
  refine HS.out.mono ?_
  rintro e w1 ⟨⟨g, rfl, hg⟩, hb1⟩
  have HM : Hid (Calls Try.prog 11 #[.slice a n c] w1 fun e w' => SmlR e n B ∧ Below w1.heap.size w1 w') := small_any a n c D C T M B w1 (HH.out.1.below hb1) HH.out.2.1 HH.out.2.2
  have hg' : Hid (g = true ↔ (0 < n ∧ ∀ i, i < n → Good D C T M B i)) := hg
  clear hg
  go_wp2_with fail
  refine HM.out.mono ?_
  rintro e w2 ⟨⟨o, rfl, ho⟩, hb2⟩
  have ho' : Hid (o = true → bsum B n ≤ 67108864) := ho
  have HB2 : Hid (Below w.heap.size w w2) := hb1.trans (hb2.mono hb1.size)
  clear ho hb1 hb2 HM HS
  cases g
  · go_wp2_with fail
    go_ret
    exact ⟨rfl, HB2.out⟩
  cases o
  · go_wp2_with fail
    go_ret
    exact ⟨rfl, HB2.out⟩
  have hGd : Hid (0 < n ∧ ∀ i, i < n → Good D C T M B i) := hg'.out.1 rfl
  have hSm : Hid (bsum B n ≤ 67108864) := ho'.out rfl
  have hnn : Hid (n ≤ 67108864) := by unfold Hid; have := bsum_six B n; have := hSm.out; omega
  clear hg' ho'
  have hI0 := HH.out.1.below HB2.out
  obtain ⟨b, off, hab, c0, c1, c2, c3, c4⟩ := hI0 0 hGd.out.1
  subst hab
  have n0 : (0 : Int) < (n : Int) := Int.ofNat_lt.2 hGd.out.1
  simp only [Nat.zero_mul, Nat.add_zero] at c2
  clear c0 c1 c3 c4 hI0
  obtain ⟨m0, hm0⟩ : ∃ m, M 0 = m := ⟨_, rfl⟩
  rw [hm0] at c2
  have hm0' : Hid (M 0 = m0) := hm0
  clear hm0
  cases m0
  · go_wp2_with fail
    go_ret
    exact ⟨rfl, HB2.out⟩
  have HW : Hid (Calls Try.prog 13 #[.slice (some ⟨b, off, none⟩) n c] w2 fun e w' => WrE e n D C T M B ∧ Below w2.heap.size w2 w') := write_any (some ⟨b, off, none⟩) n c D C T M B w2 (HH.out.1.below HB2.out) hSm.out
  go_wp2_with fail
  refine HW.out.mono ?_
  rintro e w3 ⟨hE, hb3⟩
  have HB3 : Hid (Below w.heap.size w w3) := HB2.out.trans (hb3.mono HB2.out.size)
  obtain ⟨H, σ, rfl, hI, hS⟩ := wrE_good hE hGd.out.1 hGd.out.2
  obtain ⟨L, hF⟩ := spF_of hI hS
  obtain ⟨q1, q2, q3⟩ := whole_facts hGd.out.2 hF hGd.out.1 hm0'.out
  have hlen := spX_len hGd.out.1 hI hSm.out
  rw [← S_size] at hlen
  have HF : Hid (SpF n D C T M B H L) := hF
  clear hE hb3 HW c2 n0 hI hS hF
  have hX0 : Hid ((S (outB H B 0 n)).size ≤ 67108864) := hlen
  obtain ⟨X, hX⟩ : ∃ X, S (outB H B 0 n) = X := ⟨_, rfl⟩
  rw [hX] at q1 q2 q3 hlen hX0 ⊢
  have HHd : Hid (∀ W, Calls Try.prog 16 #[.string X] W fun r w' => r = .returned (headV X) ∧ Below W.heap.size W w') := fun W => berHead_any X W (by omega)
  rw [q1] at HHd
  obtain ⟨z, hz⟩ : ∃ z, z = 2 + ll (L 0) := ⟨_, rfl⟩
  rw [← hz] at q2 q3 HHd
  obtain ⟨Ct, hCt⟩ : ∃ Ct, S (outB H B 1 (n - 1)) = Ct := ⟨_, rfl⟩
  have hCt' : Hid (S (outB H B 1 (n - 1)) = Ct) := hCt
  rw [hCt] at q3
  obtain ⟨l0, hl0⟩ : ∃ l0, L 0 = l0 := ⟨_, rfl⟩
  rw [hl0] at q2 HHd
  have wz : Hid (wrap64 ((z : Int) + (l0 : Int)) = (X.size : Int)) := wr_two z l0 X.size q2.symm (by omega)
  have z2 : ¬ (z : Int) < 2 := by omega
  have z3 : z ≤ X.size := by omega
  have z4 : (0 : Int) ≤ (z : Int) := Int.natCast_nonneg _
  have z5 : (z : Int) ≤ (X.size : Int) := by omega
  have wz' := wz.out
  generalize ((C 0).toNat : Int) = cl0 at HHd
  generalize ((T 0).toNat : Int) = tg0 at HHd
  clear hX hl0 hz q1 q2 hCt wz hlen
  go_wp2_with fail
  refine (HHd.out _).mono ?_
  rintro r w4 ⟨rfl, hb4⟩
  have HB4 : Hid (Below w.heap.size w w4) := HB3.out.trans (hb4.mono HB3.out.size)
  clear hb4 HHd HB3
  obtain ⟨N, hN1, hN2, hN3⟩ := itN_all hGd.out.2 n 1 (by omega) (Nat.le_refl _) hGd.out.1
  have hspl : Hid (spl Ct (Ct.size + 1) 0 = .ok ((List.range N).map (fun i => elK D C T M n B H (itN D n i 1)))) := by
    unfold Hid
    rw [← hCt'.out]
    have h0 : byB H B 1 1 = 0 := byB_same H B 1
    have := spl_all hGd.out.2 HF.out N 1 ((S (outB H B 1 (n - 1))).size + 1) (by
      rw [S_size]
      have hge := len_ge (H := H) (B := B) (n - 1) 1 (fun j j1 j2 => by rw [(HF.out j (by omega)).1, hdrL_len]; omega)
      omega) hN2 hN3
    rw [h0] at this
    exact this
  have hCs : Hid (Ct.size ≤ 4294967296) := by
    unfold Hid
    rw [← q3, ← size_l, drop_l, List.length_drop]
    have := hX0.out
    rw [size_l]
    omega
  have hCs2 : Hid (Ct.size ≤ 67108864) := by
    unfold Hid
    rw [← q3, ← size_l, drop_l, List.length_drop]
    have := hX0.out
    rw [size_l]
    omega
  have HN : Hid ((∀ i, i < N → 1 ≤ itN D n i 1 ∧ itN D n i 1 < n) ∧ itN D n N 1 = n ∧ N ≤ n) := ⟨hN2, hN3, by omega⟩
  have HSp : Hid (∀ W, Calls Try.prog 17 #[.string Ct] W fun r w' => splitQ Ct W.heap.size r w' ∧ Below W.heap.size W w') := fun W => berSplit_any Ct W hCs.out
  clear hN1 hN2 hN3
  go_wp2_with fail
  refine (HSp.out _).mono ?_
  rintro r w5 ⟨hQ, hb5⟩
  have HB5 : Hid (Below w.heap.size w w5) := (HB4.out.alloc HB4.out.size _).trans (hb5.mono (by have := HB4.out.size; simp; omega))
  clear hb5 HSp HB4
  rcases hQ with ⟨l, v, hk, rfl, hown⟩ | ⟨c', q', hk, rfl⟩
  rotate_left
  · rw [hspl.out] at hk; cases hk
  rw [hspl.out] at hk
  injection hk with hk
  obtain ⟨la, lc, rfl, hrow⟩ := ownE_any hown
  have hlN : l.length = N := by rw [← hk, List.length_map, List.length_range]
  have hli : Hid (∀ i (hi : i < l.length), l[i] = elK D C T M n B H (itN D n i 1)) := fun i hi => by subst hk; simp
  have HR : Hid (ERow w5 la l) := hrow
  rw [hlN]
  have hlN' : Hid (l.length = N) := hlN
  clear hk hown hrow hspl hlN
  go_wp2_with fail
  go_loopw [14, 15, 16] (fun av tv iv wr => ∃ (i : Nat) (vo : Value), av = vo ∧ tv = .int .i64 (itN D n i 1 : Int) ∧ iv = .int .i64 (i : Int) ∧ i ≤ N ∧ Hid (Own wr w5.heap.size vo (outB H B 1 (itN D n i 1 - 1)) ∧ Below w5.heap.size w5 wr)) (fun _ _ iv _ => N - (intOf iv).toNat)
  case atStart => exact ⟨0, _, rfl, rfl, rfl, Nat.zero_le _, own_nil _ _, Below.refl _ _⟩
  case round =>
    obtain ⟨i, vo, hvo, rfl, rfl, hi, HO⟩ := hrel
    have hvo' := hvo.symm
    clear hvo
    subst hvo'
    clear wz' z2 z3 z4 z5 q3
    have i0 : (0 : Int) ≤ (i : Int) := Int.natCast_nonneg _
    by_cases hlt : i < N
    · have i1 : (i : Int) < (N : Int) := Int.ofNat_lt.2 hlt
      obtain ⟨p1, p2⟩ := HN.out.1 i hlt
      have hD2 := part_facts hGd.out.2 i p1 p2
      have hsucc := itN_succ D n i 1
      obtain ⟨p, hp⟩ : ∃ p, itN D n i 1 = p := ⟨_, rfl⟩
      rw [hp] at p1 p2 hD2 hsucc HO ⊢
      obtain ⟨f1, f2, _⟩ := nxt_facts hGd.out.2 p p2
      obtain ⟨g1, g2, g3, g4, _⟩ := hGd.out.2 p p2
      have HLf : Hid (∀ W, Below w5.heap.size w5 W → Calls Try.prog 18 #[.slice (some ⟨b, off, none⟩) n c, .int .i64 (p : Int)] W fun r w' => ∃ v, r = .returned (.tuple #[v, .int .i64 (nxt D n p : Int)]) ∧ OwnN w' W.heap.size v (nodesL (nxt D n p - p) (fun j => D (p + j) - 1) (fun j => C (p + j)) (fun j => T (p + j)) (fun j => M (p + j)) (fun j => B (p + j))) ∧ Below W.heap.size W w') := fun W hW => lifted_any (some ⟨b, off, none⟩) n c D C T M B p W ((HH.out.1.below HB5.out).below hW) hGd.out.2 p2 hD2 hnn.out
      have HJ : Hid (∀ W, Calls Try.prog 19 #[elV ((C p).toNat : Int) (M p) ((T p).toNat : Int) (S (bodyK D n B H p))] W fun r w' => r = .returned (.tuple #[.string (S (outB H B p (nxt D n p - p))), .int .i64 0]) ∧ Below W.heap.size W w') := fun W => part_join hGd.out.2 HF.out p2 (by
        have h1 := bodyK_len hGd.out.2 HF.out p p2
        have h2 := by_next hGd.out.2 HF.out p p1 p2
        have h3 := byB_add H B 1 (nxt D n p) n (by omega) f2
        have h4 : byB H B 1 n = Ct.size := by rw [← hCt'.out, S_size]; rfl
        have h5 := hCs2.out
        omega) W
      have HWp : Hid (∀ (W : World) (pa : Option Addr) (pc : Nat), NdRow W pa (nodesL (nxt D n p - p) (fun j => D (p + j) - 1) (fun j => C (p + j)) (fun j => T (p + j)) (fun j => M (p + j)) (fun j => B (p + j))) → Calls Try.prog 13 #[.slice pa (nxt D n p - p) pc] W fun e w' => e = .returned (.tuple #[.string (S (outB H B p (nxt D n p - p))), .int .i64 0, .int .i64 0]) ∧ Below W.heap.size W w') := fun W pa pc hr => by
        refine (write_any pa _ pc _ _ _ _ _ W (row_isN0 hr) ?_).mono (fun e w' ⟨h1, h2⟩ => ⟨part_write hGd.out.2 HF.out p2 hD2 h1, h2⟩)
        have h1 := bsum_part B p (nxt D n p - p)
        have h2 := bsum_mono B n (p + (nxt D n p - p)) (by omega)
        have := hSm.out
        omega
      obtain ⟨m, hm⟩ : ∃ m, nxt D n p - p = m := ⟨_, rfl⟩
      obtain ⟨nx, hnx⟩ : ∃ nx, nxt D n p = nx := ⟨_, rfl⟩
      have hout : Hid (outB H B 1 (nx - 1) = outB H B 1 (p - 1) ++ (S (outB H B p m)).data.toList) := by
        unfold Hid
        rw [S_l, ← hm, hnx, show nx - 1 = (p - 1) + (nx - p) from by omega, outB_app, show 1 + (p - 1) = p from by omega]
      have hlo : Hid ((outB H B 1 (p - 1)).length + (S (outB H B p m)).size ≤ 1099511627776) := by
        unfold Hid
        have h3 := byB_add H B 1 nx n (by omega) (by omega)
        have h4 : byB H B 1 n = Ct.size := by rw [← hCt'.out, S_size]; rfl
        have h5 := hCs2.out
        have h6 : byB H B 1 nx = (outB H B 1 (nx - 1)).length := rfl
        rw [hout.out, List.length_append, size_l] at h6
        omega
      have hsN : Hid (itN D n (i + 1) 1 = nx) := by unfold Hid; rw [hsucc, hnx]
      obtain ⟨eb, hea, e0, e1, e2, e3⟩ := (HR.out.below HO.out.2) i (by rw [hlN'.out]; exact hlt)
      have hel := hli.out i (by rw [hlN'.out]; exact hlt)
      rw [hp] at hel
      rw [hel] at e0 e1 e2 e3
      subst hea
      have hm1 : 0 < m := by omega
      rw [hm, hnx] at HLf
      rw [hm] at HJ HWp
      have hCp : C p = ((C p).toNat : Int) := by omega
      have hTp : T p = ((T p).toNat : Int) := by omega
      have hbW : Hid (eb < wr.heap.size) := World.block_lt_of_cell? wr _ e0
      have m2 : ¬ (p : Int) ≥ (n : Int) := by omega
      have wi : Hid (wrap64 ((i : Int) + 1) = ((i + 1 : Nat) : Int)) := wr_upk i (by have := HN.out.2.2; have := hnn.out; omega)
      obtain ⟨cc, hcc⟩ : ∃ x, ((C p).toNat : Int) = x := ⟨_, rfl⟩
      obtain ⟨tt, htt⟩ : ∃ x, ((T p).toNat : Int) = x := ⟨_, rfl⟩
      obtain ⟨mk, hmk⟩ : ∃ x, M p = x := ⟨_, rfl⟩
      obtain ⟨bs, hbs⟩ : ∃ x, S (bodyK D n B H p) = x := ⟨_, rfl⟩
      obtain ⟨os, hos⟩ : ∃ x, S (outB H B p m) = x := ⟨_, rfl⟩
      have E0 : wr.cell? ⟨eb, i * 4, none⟩ = some (.int .i64 cc) := by rw [← hcc]; exact e0
      have E1 : wr.cell? ⟨eb, i * 4 + 1, none⟩ = some (.bool mk) := by rw [← hmk]; exact e1
      have E2 : wr.cell? ⟨eb, i * 4 + 2, none⟩ = some (.int .i64 tt) := by rw [← htt]; exact e2
      have E3 : wr.cell? ⟨eb, i * 4 + 3, none⟩ = some (.string bs) := by rw [← hbs]; exact e3
      rw [hcc, htt, hmk, hbs, hos] at HJ
      rw [hos] at HWp hout hlo
      have hCT : Hid (C p = cc ∧ T p = tt ∧ M p = mk ∧ 0 < m) := ⟨hCp.trans hcc, hTp.trans htt, hmk, hm1⟩
      have hi' : Hid (i < N) := hlt
      clear hp p1 hD2 hsucc f1 f2 g1 g2 g3 g4 hm hnx hel e0 e1 e2 e3 hm1 hCp hTp hcc htt hmk hbs hos hlt hi p2
      go_wp2_with fail
      refine (HLf.out _ HO.out.2).mono ?_
      rintro r w6 ⟨v6, rfl, hov, hb6⟩
      obtain ⟨pa, pc, rfl, prow⟩ := ownN_any hov
      rw [nodesL_len]
      have F0 := (hb6.cell hbW.out).trans E0
      have F1 := (hb6.cell hbW.out).trans E1
      have F2 := (hb6.cell hbW.out).trans E2
      have F3 := (hb6.cell hbW.out).trans E3
      have HO6 : Hid (Own w6 w5.heap.size vo (outB H B 1 (p - 1)) ∧ Below w5.heap.size w5 w6 ∧ eb < w6.heap.size) := ⟨ownL_below HO.out.1 hb6, HO.out.2.trans (hb6.mono HO.out.2.size), Nat.lt_of_lt_of_le hbW.out hb6.size⟩
      have HP6 : Hid (NdRow w6 pa (nodesL m (fun j => D (p + j) - 1) (fun j => C (p + j)) (fun j => T (p + j)) (fun j => M (p + j)) (fun j => B (p + j)))) := prow
      clear hov prow hb6 HLf HO E0 E1 E2 E3 hbW
      go_wp2_with fail
      refine (HJ.out _).mono ?_
      rintro r w7 ⟨rfl, hb7⟩
      have HO7 : Hid (Own w7 w5.heap.size vo (outB H B 1 (p - 1)) ∧ Below w5.heap.size w5 w7 ∧ eb < w7.heap.size) := ⟨ownL_below HO6.out.1 hb7, HO6.out.2.1.trans (hb7.mono HO6.out.2.1.size), Nat.lt_of_lt_of_le HO6.out.2.2 hb7.size⟩
      have HP7 : Hid (NdRow w7 pa (nodesL m (fun j => D (p + j) - 1) (fun j => C (p + j)) (fun j => T (p + j)) (fun j => M (p + j)) (fun j => B (p + j)))) := HP6.out.below hb7
      have G0 := (hb7.cell HO6.out.2.2).trans F0
      have G1 := (hb7.cell HO6.out.2.2).trans F1
      have G2 := (hb7.cell HO6.out.2.2).trans F2
      clear hb7 HJ HO6 HP6 F0 F1 F2 F3
      go_wp2_with fail
      refine (HWp.out w7 pa pc HP7.out).mono ?_
      rintro r w8 ⟨rfl, hb8⟩
      have HO8 : Hid (Own w8 w5.heap.size vo (outB H B 1 (p - 1)) ∧ Below w5.heap.size w5 w8) := ⟨ownL_below HO7.out.1 hb8, HO7.out.2.1.trans (hb8.mono HO7.out.2.1.size)⟩
      have K0 := (hb8.cell HO7.out.2.2).trans G0
      have K1 := (hb8.cell HO7.out.2.2).trans G1
      have K2 := (hb8.cell HO7.out.2.2).trans G2
      obtain ⟨pb, poff, hpa, d0, d1, d2, d3, d4⟩ := row_isN0 (HP7.out.below hb8) 0 hCT.out.2.2.2
      subst hpa
      simp only [Nat.zero_mul, Nat.add_zero, hCT.out.1, hCT.out.2.1, hCT.out.2.2.1] at d1 d2 d3
      have mz : (0 : Int) < (m : Int) := Int.ofNat_lt.2 hCT.out.2.2.2
      clear hb8 HWp HO7 HP7 G0 G1 G2 d0 d4
      go_upto_region 24 with fail
      go_quiet (fail)
      obtain ⟨W9, hW9⟩ : ∃ W9, w8.drewN nq = W9 := ⟨_, rfl⟩
      rw [hW9]
      have HO9 : Hid (Own W9 w5.heap.size vo (outB H B 1 (p - 1)) ∧ Below w5.heap.size w5 W9) := by
        rw [← hW9]
        have hb : Below w8.heap.size w8 (w8.drewN nq) := ⟨rfl, rfl, rfl, Nat.le_refl _, fun _ _ => rfl⟩
        exact ⟨ownL_below HO8.out.1 hb, HO8.out.2.trans (hb.mono HO8.out.2.size)⟩
      have hs9 : w5.heap.size ≤ W9.heap.size := HO9.out.2.size
      obtain ⟨ii, hii⟩ : ∃ ii, ii = i + 1 := ⟨_, rfl⟩
      rw [← hii] at wi hsN
      have wi' := wi.out
      have hi2 : Hid (i < N ∧ ii = i + 1 ∧ ii ≤ N) := ⟨hi'.out, hii, by rw [hii]; exact hi'.out⟩
      clear K0 K1 K2 d1 d2 d3 HO8 hW9 wi hii
      go_wp2_with (at_builtin; refine push_str _ rfl _ _ rfl w5.heap.size _ (outB H B 1 (p - 1)) os rfl rfl ?_ ?_ ?_ ?_; (exact HO9.out.1); (exact hs9); (exact hlo.out); intro v10 w10 hown10 hb10)
      rw [wi']
      exact ⟨⟨ii, v10, rfl, by rw [hsN.out], rfl, hi2.out.2.2, by rw [hsN.out, hout.out]; exact hown10, HO9.out.2.trans hb10⟩, meas_dn N i ii hi2.out.1 hi2.out.2.1⟩
    · obtain rfl : i = N := by omega
      have i1 : ¬ (i : Int) < (i : Int) := by omega
      have hend := HN.out.2.1
      rw [hend] at HO ⊢
      have hback := own_back_any (P := Try.prog) wr w5.heap.size 50 9 5 _ _ _ Try.underlying50 Try.underlying5 Try.underlying9 HO.out.1
      rw [hCt'.out] at hback
      have hB : Hid (Below w.heap.size w wr) := HB5.out.trans (HO.out.2.mono HB5.out.size)
      clear HO hend
      go_wp2_with fail
      go_ret
      exact ⟨rfl, hB.out⟩
end Go.Proofs.Ytgfonnjblbpogaa
