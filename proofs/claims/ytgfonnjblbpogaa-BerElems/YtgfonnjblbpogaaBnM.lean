import Derived.Test.YtgfonnjblbpogaaBwF
import Derived.Test.YtgfonnjblbpogaaBwWr
namespace Go.Proofs.Ytgfonnjblbpogaa
open Go.RowKit
open BerMath (Hd HR num hAt wAt El TR elEnd endE one andThen kids)
set_option linter.unusedVariables false

/-- An element in i others. -/
def nst (c : Nat) (inner : List UInt8) : Nat → List UInt8
  | 0 => hdrL c false 4 inner.length (ll inner.length) ++ inner
  | i + 1 => hdrL 0 true 16 (nst c inner i).length (ll (nst c inner i).length) ++ nst c inner i
theorem nst_zero_len (c : Nat) (inner : List UInt8) : (nst c inner 0).length = 2 + ll inner.length + inner.length := by
  show (hdrL _ _ _ _ _ ++ inner).length = _
  rw [List.length_append, hdrL_len]
theorem nst_succ_len (c : Nat) (inner : List UInt8) (i : Nat) : (nst c inner (i + 1)).length = 2 + ll (nst c inner i).length + (nst c inner i).length := by
  show (hdrL _ _ _ _ _ ++ nst c inner i).length = _
  rw [List.length_append, hdrL_len]
theorem nst_len (c : Nat) (inner : List UInt8) : ∀ i, (nst c inner i).length ≤ inner.length + 6 * (i + 1)
  | 0 => by
    have := ll_le inner.length
    rw [nst_zero_len]
    omega
  | i + 1 => by
    have h := nst_len c inner i
    have := ll_le (nst c inner i).length
    rw [nst_succ_len]
    omega
theorem nst_mono (c : Nat) (inner : List UInt8) : ∀ i j, j ≤ i → (nst c inner j).length ≤ (nst c inner i).length
  | 0, j, h => by rw [Nat.le_zero.1 h]; exact Nat.le_refl _
  | i + 1, j, h => by
    by_cases e : j = i + 1
    · rw [e]; exact Nat.le_refl _
    · have := nst_mono c inner i j (by omega)
      rw [nst_succ_len]
      omega
/-- The nodes of it. -/
def nsts (c : Nat) (inner : ByteArray) : Nat → Nat → List Nd
  | d, 0 => [⟨(d : Int), (c : Int), false, 4, inner⟩]
  | d, i + 1 => ⟨(d : Int), 0, true, 16, ⟨#[]⟩⟩ :: nsts c inner (d + 1) i
theorem nsts_len (c : Nat) (inner : ByteArray) : ∀ i d, (nsts c inner d i).length = i + 1
  | 0, d => rfl
  | i + 1, d => by show (nsts c inner (d + 1) i).length + 1 = _; rw [nsts_len c inner i]
theorem nsts_at (c : Nat) (inner : ByteArray) : ∀ i d j (h : j < (nsts c inner d i).length), (j < i → (nsts c inner d i)[j] = ⟨((d + j : Nat) : Int), 0, true, 16, ⟨#[]⟩⟩) ∧ (j = i → (nsts c inner d i)[j] = ⟨((d + j : Nat) : Int), (c : Int), false, 4, inner⟩)
  | 0, d, j, h => by
    rw [nsts_len] at h
    obtain rfl : j = 0 := by omega
    exact ⟨fun e => by omega, fun _ => rfl⟩
  | i + 1, d, 0, h => ⟨fun _ => rfl, fun e => by omega⟩
  | i + 1, d, j + 1, h => by
    have ih := nsts_at c inner i (d + 1) j (by rw [nsts_len] at h ⊢; omega)
    rw [show d + (j + 1) = d + 1 + j from by omega]
    exact ⟨fun e => ih.1 (by omega), fun e => ih.2 (by omega)⟩
theorem wAt_hdr (b : List UInt8) (p e c : Nat) (m : Bool) (t len : Nat) (rest : List UInt8) (hb : b.drop p = hdrL c m t len (ll len) ++ rest) (hc : c ≤ 3) (ht : t ≤ 30) (hl : len < 4294967296) (he : p + (2 + ll len) + len ≤ e) :
    wAt b p e = .ok ⟨c, m, t, len, 2 + ll len⟩ := by
  unfold wAt
  rw [hAt_shift b p e ⟨c, m, t, len, 2 + ll len⟩ (by omega) (by rw [hb]; exact hAt_hdr _ _ _ _ _ _ _ hc ht (says_wide len hl) (by omega))]
  dsimp only
  rw [if_neg (by omega)]
theorem lastE_cons (x : El) {ys : List El} (h : ys ≠ []) : lastE (x :: ys) = lastE ys := by
  cases ys with
  | nil => exact absurd rfl h
  | cons y ys =>
    unfold lastE
    rw [List.getLast?_cons_cons]
theorem lastE_one (x : El) : lastE [x] = elEnd x := rfl
theorem body_of (s inner : ByteArray) (q : Nat) (rest : List UInt8) (h : s.data.toList.drop q = inner.data.toList ++ rest) : s.extract q (q + inner.size) = inner := by
  have e2 : S (s.extract q (q + inner.size)).data.toList = S inner.data.toList := by
    congr 1
    rw [extr_b, List.drop_take, show q + inner.size - q = inner.size from by omega, h, ← size_l inner, List.take_left]
  rw [S_of, S_of] at e2
  exact e2
theorem ndOf_leaf (s inner : ByteArray) (p c d z : Nat) (rest : List UInt8) (h : s.data.toList.drop (p + z) = inner.data.toList ++ rest) : ndOf s (p, ⟨c, false, 4, inner.size, z⟩, d) = ⟨(d : Int), (c : Int), false, 4, inner⟩ := by
  unfold ndOf
  dsimp only
  rw [if_neg (by decide), body_of s inner (p + z) rest h]
  rfl
set_option maxHeartbeats 1000000 in
theorem one_nst (s : ByteArray) (c : Nat) (inner : ByteArray) (hc : c ≤ 3) (hi : inner.size ≤ 1048576) : ∀ (i p d f m e : Nat) (rest : List UInt8), i ≤ 200 → s.data.toList.drop p = nst c inner.data.toList i ++ rest → e = p + (nst c inner.data.toList i).length → e ≤ p + f + 2 → d ≤ 65 →
    (d + i ≤ 64 → ∃ xs, one s.data.toList (kids s.data.toList f) m e p d = (xs, none) ∧ xs ≠ [] ∧ endE xs = e ∧ lastE xs = e ∧ xs.map (ndOf s) = nsts c inner d i) ∧
    (64 < d + i → (one s.data.toList (kids s.data.toList f) m e p d).2 = some (25, e - (nst c inner.data.toList (i + d - 65)).length))
  | 0, p, d, f, m, e, rest, hn, hb, he, hf, hd => by
    have hsz : inner.data.toList.length = inner.size := size_l _
    rw [nst_zero_len, hsz] at he
    have hb' : s.data.toList.drop p = hdrL c false 4 inner.size (ll inner.size) ++ (inner.data.toList ++ rest) := by
      rw [hb, ← List.append_assoc, ← hsz]
      rfl
    refine ⟨fun h => ?_, fun h => ?_⟩
    · have hw := wAt_hdr s.data.toList p e c false 4 inner.size _ hb' hc (by omega) (by omega) (by omega)
      have hdr : s.data.toList.drop (p + (2 + ll inner.size)) = inner.data.toList ++ rest := by
        rw [← List.drop_drop, hb', show 2 + ll inner.size = (hdrL c false 4 inner.size (ll inner.size)).length from (hdrL_len _ _ _ _ _).symm, List.drop_left]
      refine ⟨_, BerMath.one_leaf _ _ _ _ _ _ _ (by omega) hw (fun h => by cases h), by simp, ?_, ?_, ?_⟩
      · simp only [endE, elEnd]
        omega
      · rw [lastE_one]
        simp only [elEnd]
        omega
      · rw [List.map_cons, List.map_nil, ndOf_leaf s inner p c d _ rest hdr]
        rfl
    · have hd' : d = 65 := by omega
      rw [BerMath.one_deep _ _ _ _ _ _ (by omega)]
      show some (25, p) = _
      rw [show 0 + d - 65 = 0 from by omega, nst_zero_len, hsz, he]
      congr 2
      omega
  | i + 1, p, d, f, m, e, rest, hn, hb, he, hf, hd => by
    have hln := nst_len c inner.data.toList i
    have hsz : inner.data.toList.length = inner.size := size_l _
    rw [hsz] at hln
    have hsl := nst_succ_len c inner.data.toList i
    obtain ⟨N, hN⟩ : ∃ N, (nst c inner.data.toList i).length = N := ⟨_, rfl⟩
    have hb' : s.data.toList.drop p = hdrL 0 true 16 N (ll N) ++ (nst c inner.data.toList i ++ rest) := by
      rw [hb, ← List.append_assoc, ← hN]
      rfl
    rw [hN] at hsl hln
    by_cases h65 : d = 65
    · refine ⟨fun h => by omega, fun _ => ?_⟩
      rw [BerMath.one_deep _ _ _ _ _ _ (by omega)]
      show some (25, p) = _
      rw [show i + 1 + d - 65 = i + 1 from by omega, he]
      congr 2
      omega
    have hw := wAt_hdr s.data.toList p e 0 true 16 N _ hb' (by omega) (by omega) (by omega) (by omega)
    rw [BerMath.one_made _ _ _ _ _ _ _ (by omega) hw rfl]
    dsimp only
    have eE : p + (2 + ll N) + N = e := by omega
    rw [eE]
    have hb2 : s.data.toList.drop (p + (2 + ll N)) = nst c inner.data.toList i ++ rest := by
      rw [← List.drop_drop, hb', show 2 + ll N = (hdrL 0 true 16 N (ll N)).length from (hdrL_len _ _ _ _ _).symm, List.drop_left]
    have hN2 : 2 ≤ N := by
      rw [← hN]
      have := nst_mono c inner.data.toList i 0 (Nat.zero_le _)
      rw [nst_zero_len] at this
      omega
    obtain ⟨f', rfl⟩ : ∃ f', f = f' + 1 := ⟨f - 1, by omega⟩
    rw [BerMath.kids_succ _ _ _ _ _ (by omega)]
    obtain ⟨ih1, ih2⟩ := one_nst s c inner hc hi i (p + (2 + ll N)) (d + 1) f' 26 e rest (by omega) hb2 (by omega) (by omega) (by omega)
    refine ⟨fun h => ?_, fun h => ?_⟩
    · obtain ⟨xs, x1, x2, x3, x4, x5⟩ := ih1 (by omega)
      rw [x1]
      unfold andThen
      dsimp only
      rw [x3, BerMath.kids_end _ _ _ _ _ (Nat.le_refl _)]
      dsimp only
      rw [List.append_nil]
      refine ⟨_, rfl, by simp, eE, by rw [lastE_cons _ x2]; exact x4, ?_⟩
      rw [List.map_cons, x5]
      rfl
    · have h2 := ih2 (by omega)
      obtain ⟨⟨xs, r⟩, hr⟩ : ∃ y, one s.data.toList (kids s.data.toList f') 26 e (p + (2 + ll N)) (d + 1) = y := ⟨_, rfl⟩
      rw [hr] at h2 ⊢
      dsimp only at h2
      rw [h2]
      unfold andThen
      dsimp only
      rw [show i + (d + 1) - 65 = i + 1 + d - 65 from by omega]
theorem tree_nst (c : Nat) (inner : ByteArray) (hc : c ≤ 3) (hi : inner.size ≤ 1048576) (n : Nat) (hn : n ≤ 200) :
    (n ≤ 63 → ∃ xs, treeR (S (nst c inner.data.toList n)) = .ok xs ∧ xs.map (ndOf (S (nst c inner.data.toList n))) = nsts c inner 1 n) ∧
    (63 < n → treeR (S (nst c inner.data.toList n)) = .error (25, (nst c inner.data.toList n).length - (nst c inner.data.toList (n - 64)).length)) := by
  have hs : (S (nst c inner.data.toList n)).size = (nst c inner.data.toList n).length := S_size _
  obtain ⟨h1, h2⟩ := one_nst (S (nst c inner.data.toList n)) c inner hc hi n 0 1 (S (nst c inner.data.toList n)).size 20 (S (nst c inner.data.toList n)).size [] hn (by rw [S_l, List.drop_zero, List.append_nil]) (by rw [hs]; omega) (by omega) (by omega)
  refine ⟨fun h => ?_, fun h => ?_⟩
  · obtain ⟨xs, x1, x2, x3, x4, x5⟩ := h1 (by omega)
    refine ⟨xs, ?_, x5⟩
    unfold treeR tr
    rw [x1]
    dsimp only
    rw [x4, if_neg (by omega)]
  · have h3 := h2 (by omega)
    unfold treeR tr
    rw [h3]
    dsimp only
    rw [hs, show n + 1 - 65 = n - 64 from by omega]
end Go.Proofs.Ytgfonnjblbpogaa
