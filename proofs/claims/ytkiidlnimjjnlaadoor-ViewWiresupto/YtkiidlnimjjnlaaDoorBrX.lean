import Derived.Test.YtkiidlnimjjnlaaDoorBwF
import Derived.Test.YtkiidlnimjjnlaaDoorBwX
import Derived.Test.YtkiidlnimjjnlaaDoorRows
import Derived.Laws.BitsLemmas
import Derived.Test.YtkiidlnimjjnlaaDoorBytes
import Derived.Deep.AppendLies
import Derived.Great.BuildSlice
import Derived.BigQuiet
import Derived.KernelRfl
import Derived.Test.YtkiidlnimjjnlaaDoorBRefHead
import Derived.Test.YtkiidlnimjjnlaaDoorBWhole
namespace Go.Proofs.YtkiidlnimjjnlaaDoor
open Go.RowKit
open BerMath (Hd HR num hAt wAt El TR elEnd endE one andThen kids)
set_option linter.unusedVariables false

/-- An element in i others. -/
def nst (c : Nat) (inner : List UInt8) : Nat → List UInt8
  | 0 => hdrL c false 4 inner.length (ll inner.length) ++ inner
  | i + 1 => hdrL 0 true 16 (nst c inner i).length (ll (nst c inner i).length) ++ nst c inner i
theorem nst_zero_len (c : Nat) (inner : List UInt8) : (nst c inner 0).length = 2 + ll inner.length + inner.length := by
  show (hdrL _ _ _ _ _ ++ inner).length = _
  rw [List.length_append, hdrL_len]
theorem nst_succ_len (c : Nat) (inner : List UInt8) (i : Nat) : (nst c inner (i + 1)).length = 2 + ll (nst c inner i).length + (nst c inner i).length := by
  show (hdrL _ _ _ _ _ ++ nst c inner i).length = _
  rw [List.length_append, hdrL_len]
theorem nst_len (c : Nat) (inner : List UInt8) : ∀ i, (nst c inner i).length ≤ inner.length + 6 * (i + 1)
  | 0 => by
    have := ll_le inner.length
    rw [nst_zero_len]
    omega
  | i + 1 => by
    have h := nst_len c inner i
    have := ll_le (nst c inner i).length
    rw [nst_succ_len]
    omega
theorem nst_mono (c : Nat) (inner : List UInt8) : ∀ i j, j ≤ i → (nst c inner j).length ≤ (nst c inner i).length
  | 0, j, h => by rw [Nat.le_zero.1 h]; exact Nat.le_refl _
  | i + 1, j, h => by
    by_cases e : j = i + 1
    · rw [e]; exact Nat.le_refl _
    · have := nst_mono c inner i j (by omega)
      rw [nst_succ_len]
      omega
/-- The nodes of it. -/
def nsts (c : Nat) (inner : ByteArray) : Nat → Nat → List Nd
  | d, 0 => [⟨(d : Int), (c : Int), false, 4, inner⟩]
  | d, i + 1 => ⟨(d : Int), 0, true, 16, ⟨#[]⟩⟩ :: nsts c inner (d + 1) i
theorem nsts_len (c : Nat) (inner : ByteArray) : ∀ i d, (nsts c inner d i).length = i + 1
  | 0, d => rfl
  | i + 1, d => by show (nsts c inner (d + 1) i).length + 1 = _; rw [nsts_len c inner i]
theorem nsts_at (c : Nat) (inner : ByteArray) : ∀ i d j (h : j < (nsts c inner d i).length), (j < i → (nsts c inner d i)[j] = ⟨((d + j : Nat) : Int), 0, true, 16, ⟨#[]⟩⟩) ∧ (j = i → (nsts c inner d i)[j] = ⟨((d + j : Nat) : Int), (c : Int), false, 4, inner⟩)
  | 0, d, j, h => by
    rw [nsts_len] at h
    obtain rfl : j = 0 := by omega
    exact ⟨fun e => by omega, fun _ => rfl⟩
  | i + 1, d, 0, h => ⟨fun _ => rfl, fun e => by omega⟩
  | i + 1, d, j + 1, h => by
    have ih := nsts_at c inner i (d + 1) j (by rw [nsts_len] at h ⊢; omega)
    rw [show d + (j + 1) = d + 1 + j from by omega]
    exact ⟨fun e => ih.1 (by omega), fun e => ih.2 (by omega)⟩
theorem wAt_hdr (b : List UInt8) (p e c : Nat) (m : Bool) (t len : Nat) (rest : List UInt8) (hb : b.drop p = hdrL c m t len (ll len) ++ rest) (hc : c ≤ 3) (ht : t ≤ 30) (hl : len < 4294967296) (he : p + (2 + ll len) + len ≤ e) :
    wAt b p e = .ok ⟨c, m, t, len, 2 + ll len⟩ := by
  unfold wAt
  rw [hAt_shift b p e ⟨c, m, t, len, 2 + ll len⟩ (by omega) (by rw [hb]; exact hAt_hdr _ _ _ _ _ _ _ hc ht (says_wide len hl) (by omega))]
  dsimp only
  rw [if_neg (by omega)]
theorem lastE_cons (x : El) {ys : List El} (h : ys ≠ []) : lastE (x :: ys) = lastE ys := by
  cases ys with
  | nil => exact absurd rfl h
  | cons y ys =>
    unfold lastE
    rw [List.getLast?_cons_cons]
theorem lastE_one (x : El) : lastE [x] = elEnd x := rfl
theorem body_of (s inner : ByteArray) (q : Nat) (rest : List UInt8) (h : s.data.toList.drop q = inner.data.toList ++ rest) : s.extract q (q + inner.size) = inner := by
  have e2 : S (s.extract q (q + inner.size)).data.toList = S inner.data.toList := by
    congr 1
    rw [extr_b, List.drop_take, show q + inner.size - q = inner.size from by omega, h, ← size_l inner, List.take_left]
  rw [S_of, S_of] at e2
  exact e2
theorem ndOf_leaf (s inner : ByteArray) (p c d z : Nat) (rest : List UInt8) (h : s.data.toList.drop (p + z) = inner.data.toList ++ rest) : ndOf s (p, ⟨c, false, 4, inner.size, z⟩, d) = ⟨(d : Int), (c : Int), false, 4, inner⟩ := by
  unfold ndOf
  dsimp only
  rw [if_neg (by decide), body_of s inner (p + z) rest h]
  rfl
set_option maxHeartbeats 1000000 in
theorem one_nst (s : ByteArray) (c : Nat) (inner : ByteArray) (hc : c ≤ 3) (hi : inner.size ≤ 1048576) : ∀ (i p d f m e : Nat) (rest : List UInt8), i ≤ 200 → s.data.toList.drop p = nst c inner.data.toList i ++ rest → e = p + (nst c inner.data.toList i).length → e ≤ p + f + 2 → d ≤ 65 →
    (d + i ≤ 64 → ∃ xs, one s.data.toList (kids s.data.toList f) m e p d = (xs, none) ∧ xs ≠ [] ∧ endE xs = e ∧ lastE xs = e ∧ xs.map (ndOf s) = nsts c inner d i) ∧
    (64 < d + i → (one s.data.toList (kids s.data.toList f) m e p d).2 = some (25, e - (nst c inner.data.toList (i + d - 65)).length))
  | 0, p, d, f, m, e, rest, hn, hb, he, hf, hd => by
    have hsz : inner.data.toList.length = inner.size := size_l _
    rw [nst_zero_len, hsz] at he
    have hb' : s.data.toList.drop p = hdrL c false 4 inner.size (ll inner.size) ++ (inner.data.toList ++ rest) := by
      rw [hb, ← List.append_assoc, ← hsz]
      rfl
    refine ⟨fun h => ?_, fun h => ?_⟩
    · have hw := wAt_hdr s.data.toList p e c false 4 inner.size _ hb' hc (by omega) (by omega) (by omega)
      have hdr : s.data.toList.drop (p + (2 + ll inner.size)) = inner.data.toList ++ rest := by
        rw [← List.drop_drop, hb', show 2 + ll inner.size = (hdrL c false 4 inner.size (ll inner.size)).length from (hdrL_len _ _ _ _ _).symm, List.drop_left]
      refine ⟨_, BerMath.one_leaf _ _ _ _ _ _ _ (by omega) hw (fun h => by cases h), by simp, ?_, ?_, ?_⟩
      · simp only [endE, elEnd]
        omega
      · rw [lastE_one]
        simp only [elEnd]
        omega
      · rw [List.map_cons, List.map_nil, ndOf_leaf s inner p c d _ rest hdr]
        rfl
    · have hd' : d = 65 := by omega
      rw [BerMath.one_deep _ _ _ _ _ _ (by omega)]
      show some (25, p) = _
      rw [show 0 + d - 65 = 0 from by omega, nst_zero_len, hsz, he]
      congr 2
      omega
  | i + 1, p, d, f, m, e, rest, hn, hb, he, hf, hd => by
    have hln := nst_len c inner.data.toList i
    have hsz : inner.data.toList.length = inner.size := size_l _
    rw [hsz] at hln
    have hsl := nst_succ_len c inner.data.toList i
    obtain ⟨N, hN⟩ : ∃ N, (nst c inner.data.toList i).length = N := ⟨_, rfl⟩
    have hb' : s.data.toList.drop p = hdrL 0 true 16 N (ll N) ++ (nst c inner.data.toList i ++ rest) := by
      rw [hb, ← List.append_assoc, ← hN]
      rfl
    rw [hN] at hsl hln
    by_cases h65 : d = 65
    · refine ⟨fun h => by omega, fun _ => ?_⟩
      rw [BerMath.one_deep _ _ _ _ _ _ (by omega)]
      show some (25, p) = _
      rw [show i + 1 + d - 65 = i + 1 from by omega, he]
      congr 2
      omega
    have hw := wAt_hdr s.data.toList p e 0 true 16 N _ hb' (by omega) (by omega) (by omega) (by omega)
    rw [BerMath.one_made _ _ _ _ _ _ _ (by omega) hw rfl]
    dsimp only
    have eE : p + (2 + ll N) + N = e := by omega
    rw [eE]
    have hb2 : s.data.toList.drop (p + (2 + ll N)) = nst c inner.data.toList i ++ rest := by
      rw [← List.drop_drop, hb', show 2 + ll N = (hdrL 0 true 16 N (ll N)).length from (hdrL_len _ _ _ _ _).symm, List.drop_left]
    have hN2 : 2 ≤ N := by
      rw [← hN]
      have := nst_mono c inner.data.toList i 0 (Nat.zero_le _)
      rw [nst_zero_len] at this
      omega
    obtain ⟨f', rfl⟩ : ∃ f', f = f' + 1 := ⟨f - 1, by omega⟩
    rw [BerMath.kids_succ _ _ _ _ _ (by omega)]
    obtain ⟨ih1, ih2⟩ := one_nst s c inner hc hi i (p + (2 + ll N)) (d + 1) f' 26 e rest (by omega) hb2 (by omega) (by omega) (by omega)
    refine ⟨fun h => ?_, fun h => ?_⟩
    · obtain ⟨xs, x1, x2, x3, x4, x5⟩ := ih1 (by omega)
      rw [x1]
      unfold andThen
      dsimp only
      rw [x3, BerMath.kids_end _ _ _ _ _ (Nat.le_refl _)]
      dsimp only
      rw [List.append_nil]
      refine ⟨_, rfl, by simp, eE, by rw [lastE_cons _ x2]; exact x4, ?_⟩
      rw [List.map_cons, x5]
      rfl
    · have h2 := ih2 (by omega)
      obtain ⟨⟨xs, r⟩, hr⟩ : ∃ y, one s.data.toList (kids s.data.toList f') 26 e (p + (2 + ll N)) (d + 1) = y := ⟨_, rfl⟩
      rw [hr] at h2 ⊢
      dsimp only at h2
      rw [h2]
      unfold andThen
      dsimp only
      rw [show i + (d + 1) - 65 = i + 1 + d - 65 from by omega]
theorem tree_nst (c : Nat) (inner : ByteArray) (hc : c ≤ 3) (hi : inner.size ≤ 1048576) (n : Nat) (hn : n ≤ 200) :
    (n ≤ 63 → ∃ xs, treeR (S (nst c inner.data.toList n)) = .ok xs ∧ xs.map (ndOf (S (nst c inner.data.toList n))) = nsts c inner 1 n) ∧
    (63 < n → treeR (S (nst c inner.data.toList n)) = .error (25, (nst c inner.data.toList n).length - (nst c inner.data.toList (n - 64)).length)) := by
  have hs : (S (nst c inner.data.toList n)).size = (nst c inner.data.toList n).length := S_size _
  obtain ⟨h1, h2⟩ := one_nst (S (nst c inner.data.toList n)) c inner hc hi n 0 1 (S (nst c inner.data.toList n)).size 20 (S (nst c inner.data.toList n)).size [] hn (by rw [S_l, List.drop_zero, List.append_nil]) (by rw [hs]; omega) (by omega) (by omega)
  refine ⟨fun h => ?_, fun h => ?_⟩
  · obtain ⟨xs, x1, x2, x3, x4, x5⟩ := h1 (by omega)
    refine ⟨xs, ?_, x5⟩
    unfold treeR tr
    rw [x1]
    dsimp only
    rw [x4, if_neg (by omega)]
  · have h3 := h2 (by omega)
    unfold treeR tr
    rw [h3]
    dsimp only
    rw [hs, show n + 1 - 65 = n - 64 from by omega]
end Go.Proofs.YtkiidlnimjjnlaaDoor

namespace Go.Proofs.YtkiidlnimjjnlaaDoor
open Go.RowKit
open BerMath (Hd HR num hAt wAt El TR elEnd endE one andThen kids)
set_option linter.unusedVariables false
namespace BrM

/-- What is left, by the ends of the elements that stand open, the innermost first. -/
def rs (b : List UInt8) (N : Nat) : List Nat → Nat → TR
  | [], _ => ([], none)
  | e :: st, p => andThen (kids b N e p (st.length + 2)) (fun _ => rs b N st e)
/-- The ends rise outwards. -/
def Srt : Nat → List Nat → Prop
  | _, [] => True
  | p, e :: st => p ≤ e ∧ Srt e st
/-- Where the walk stands. -/
def Inv (s : ByteArray) (l : List El) (st : List Nat) (p : Nat) : Prop :=
  l ≠ [] ∧ tr s = (l ++ (rs s.data.toList s.size st p).1, (rs s.data.toList s.size st p).2) ∧ (st.head? = some (lastE l) ∨ p = lastE l) ∧ Srt p st ∧ (∀ e ∈ st, e ≤ s.size ∧ e ≤ 4294967301) ∧ st.length ≤ 64 ∧ 2 * l.length ≤ p ∧ p ≤ s.size ∧ p ≤ 4294967301
theorem andThen_nil (r : TR) : andThen r (fun _ => ([], none)) = r := by
  obtain ⟨xs, o⟩ := r
  cases o <;> simp [andThen]
theorem rs_pop (b : List UInt8) (N e : Nat) (st : List Nat) : rs b N (e :: st) e = rs b N st e := by
  show andThen (kids b N e e _) _ = _
  rw [BerMath.kids_end _ _ _ _ _ (Nat.le_refl _)]
  unfold andThen
  simp
theorem Inv.pop {s : ByteArray} {l : List El} {e : Nat} {st : List Nat} (h : Inv s l (e :: st) e) : Inv s l st e := by
  obtain ⟨h1, h2, h3, h4, h5, h6, h7, h8, h9⟩ := h
  rw [rs_pop] at h2
  refine ⟨h1, h2, Or.inr ?_, h4.2, fun x hx => h5 x (List.mem_cons_of_mem _ hx), by simp at h6; omega, h7, h8, h9⟩
  rcases h3 with h3 | h3
  · simpa using h3
  · exact h3
theorem Inv.done {s : ByteArray} {l : List El} {p : Nat} (h : Inv s l [] p) : tr s = (l, none) ∧ p = lastE l := by
  obtain ⟨h1, h2, h3, _⟩ := h
  refine ⟨?_, ?_⟩
  · rw [h2]
    show (l ++ [], none) = _
    rw [List.append_nil]
  · rcases h3 with h3 | h3
    · simp at h3
    · exact h3
theorem lastE_app (l : List El) (x : El) : lastE (l ++ [x]) = elEnd x := lastE_snoc l x
theorem rs_fail {b : List UInt8} {N e p : Nat} {st : List Nat} {f : Nat × Nat} (hp : p < e) (hN : e ≤ N) (ho : ∀ K, one b K 26 e p (st.length + 2) = ([], some f)) : rs b N (e :: st) p = ([], some f) := by
  obtain ⟨n, rfl⟩ : ∃ n, N = n + 1 := ⟨N - 1, by omega⟩
  show andThen (kids b (n + 1) e p _) _ = _
  rw [BerMath.kids_succ _ _ _ _ _ (by omega), ho]
  rfl
theorem rs_leaf {b : List UInt8} {N e p : Nat} {st : List Nat} {x : Hd} (hp : p < e) (hN : e ≤ N) (hd : ¬ 64 < st.length + 2) (hw : wAt b p e = .ok x) (hm : ¬ x.made = true) : rs b N (e :: st) p = ((p, x, st.length + 2) :: (rs b N ((p + x.size + x.len) :: e :: st) (p + x.size + x.len)).1, (rs b N ((p + x.size + x.len) :: e :: st) (p + x.size + x.len)).2) := by
  obtain ⟨k1, k2, k3, k4, k5, k6⟩ := BerMath.wAt_ok b p e x hw
  rw [rs_pop]
  obtain ⟨n, rfl⟩ : ∃ n, N = n + 1 := ⟨N - 1, by omega⟩
  show andThen (kids b (n + 1) e p _) _ = _
  rw [BerMath.kids_succ _ _ _ _ _ (by omega), BerMath.one_leaf _ _ _ _ _ _ x hd hw hm]
  show andThen (andThen ([(p, x, st.length + 2)], none) (fun xs => kids b n e (endE xs) (st.length + 2))) _ = (_ :: (andThen (kids b (n + 1) e (p + x.size + x.len) (st.length + 2)) _).1, (andThen (kids b (n + 1) e (p + x.size + x.len) (st.length + 2)) _).2)
  rw [← BerMath.kids_fuel b n (n + 1) e (p + x.size + x.len) (st.length + 2) (by omega) (by omega)]
  show andThen ([(p, x, st.length + 2)] ++ (kids b n e (p + x.size + x.len) (st.length + 2)).1, (kids b n e (p + x.size + x.len) (st.length + 2)).2) _ = _
  obtain ⟨⟨ys, o⟩, hr⟩ : ∃ y, kids b n e (p + x.size + x.len) (st.length + 2) = y := ⟨_, rfl⟩
  rw [hr]
  cases o <;> simp [andThen]
theorem rs_made {b : List UInt8} {N e p : Nat} {st : List Nat} {x : Hd} (hp : p < e) (hN : e ≤ N) (hd : ¬ 64 < st.length + 2) (hw : wAt b p e = .ok x) (hm : x.made = true) : rs b N (e :: st) p = ((p, x, st.length + 2) :: (rs b N ((p + x.size + x.len) :: e :: st) (p + x.size)).1, (rs b N ((p + x.size + x.len) :: e :: st) (p + x.size)).2) := by
  obtain ⟨k1, k2, k3, k4, k5, k6⟩ := BerMath.wAt_ok b p e x hw
  obtain ⟨n, rfl⟩ : ∃ n, N = n + 1 := ⟨N - 1, by omega⟩
  have hR : rs b (n + 1) ((p + x.size + x.len) :: e :: st) (p + x.size) = andThen (kids b n (p + x.size + x.len) (p + x.size) (st.length + 2 + 1)) (fun _ => andThen (kids b n e (p + x.size + x.len) (st.length + 2)) (fun _ => rs b (n + 1) st e)) := by
    show andThen (kids b (n + 1) (p + x.size + x.len) (p + x.size) (st.length + 1 + 2)) (fun _ => andThen (kids b (n + 1) e (p + x.size + x.len) (st.length + 2)) _) = _
    rw [BerMath.kids_fuel b (n + 1) n e (p + x.size + x.len) _ (by omega) (by omega), BerMath.kids_fuel b (n + 1) n (p + x.size + x.len) (p + x.size) _ (by omega) (by omega)]
  rw [hR]
  show andThen (kids b (n + 1) e p _) _ = _
  rw [BerMath.kids_succ _ _ _ _ _ (by omega), BerMath.one_made _ _ _ _ _ _ x hd hw hm]
  obtain ⟨⟨ys, o⟩, hr⟩ : ∃ y, kids b n (p + x.size + x.len) (p + x.size) (st.length + 2 + 1) = y := ⟨_, rfl⟩
  rw [hr]
  cases o with
  | some f => rfl
  | none =>
    show andThen (((p, x, st.length + 2) :: ys) ++ (kids b n e (p + x.size + x.len) (st.length + 2)).1, (kids b n e (p + x.size + x.len) (st.length + 2)).2) _ = _
    obtain ⟨⟨zs, o⟩, hz⟩ : ∃ y, kids b n e (p + x.size + x.len) (st.length + 2) = y := ⟨_, rfl⟩
    rw [hz]
    cases o <;> simp [andThen]
/-- One element more. -/
theorem Inv.step {s : ByteArray} {l : List El} {e p : Nat} {st : List Nat} {x : Hd} (h : Inv s l (e :: st) p) (hp : p < e) (hd : ¬ 64 < st.length + 2) (hw : wAt s.data.toList p e = .ok x) :
    Inv s (l ++ [(p, x, st.length + 2)]) ((p + x.size + x.len) :: e :: st) (if x.made = true then p + x.size else p + x.size + x.len) := by
  obtain ⟨h1, h2, h3, h4, h5, h6, h7, h8, h9⟩ := h
  obtain ⟨k1, k2, k3, k4, k5, k6⟩ := BerMath.wAt_ok _ p e x hw
  have he := h5 e (List.mem_cons_self ..)
  refine ⟨by simp, ?_, Or.inl ?_, ?_, ?_, ?_, ?_, ?_, ?_⟩
  · by_cases hm : x.made = true
    · rw [if_pos hm, h2, rs_made hp he.1 hd hw hm, List.append_assoc]
      rfl
    · rw [if_neg hm, h2, rs_leaf hp he.1 hd hw hm, List.append_assoc]
      rfl
  · rw [lastE_app]
    rfl
  · refine ⟨?_, k6, h4.2⟩
    split <;> omega
  · intro y hy
    rcases List.mem_cons.1 hy with rfl | hy
    · omega
    · exact h5 y hy
  · simp only [List.length_cons]
    omega
  · rw [List.length_append]
    simp only [List.length_cons, List.length_nil]
    split <;> omega
  · split <;> omega
  · split <;> omega
/-- The first element. -/
theorem Inv.start {s : ByteArray} {x : Hd} (hw : wAt s.data.toList 0 s.size = .ok x) :
    Inv s [(0, x, 1)] [0 + x.size + x.len] (if x.made = true then 0 + x.size else 0 + x.size + x.len) := by
  obtain ⟨k1, k2, k3, k4, k5, k6⟩ := BerMath.wAt_ok _ 0 _ x hw
  refine ⟨by simp, ?_, Or.inl ?_, ?_, ?_, ?_, ?_, ?_, ?_⟩
  · unfold tr
    by_cases hm : x.made = true
    · rw [if_pos hm, BerMath.one_made _ _ _ _ _ _ x (by decide) hw hm]
      show _ = ([_] ++ (andThen (kids _ _ _ _ 2) (fun _ => ([], none))).1, (andThen (kids _ _ _ _ 2) (fun _ => ([], none))).2)
      rw [andThen_nil]
      rfl
    · rw [if_neg hm, BerMath.one_leaf _ _ _ _ _ _ x (by decide) hw hm, rs_pop]
      rfl
  · rfl
  · refine ⟨?_, trivial⟩
    split <;> omega
  · intro y hy
    rcases List.mem_cons.1 hy with rfl | hy
    · omega
    · simp at hy
  · simp
  · simp only [List.length_cons, List.length_nil]
    split <;> omega
  · split <;> omega
  · split <;> omega
theorem Inv.fail {s : ByteArray} {l : List El} {e p : Nat} {st : List Nat} {f : Nat × Nat} (h : Inv s l (e :: st) p) (hp : p < e) (ho : ∀ K, one s.data.toList K 26 e p (st.length + 2) = ([], some f)) : tr s = (l, some f) := by
  obtain ⟨h1, h2, h3, h4, h5, h6, h7, h8, h9⟩ := h
  rw [h2, rs_fail hp (h5 e (List.mem_cons_self ..)).1 ho]
  simp
end BrM
end Go.Proofs.YtkiidlnimjjnlaaDoor

namespace Go.Proofs.YtkiidlnimjjnlaaDoor
namespace BnI
open Go.RowKit Go.Lib
set_option linter.unusedVariables false
set_option maxRecDepth 100000

theorem add_off (b o j : Nat) : (⟨b, o, none⟩ : Addr).add j = ⟨b, o + j, none⟩ := by
  unfold Addr.add
  by_cases h : j = 0
  · subst h; rfl
  · simp [h]
/-- Numbers as cells. -/
def iv (l : List Int) : List Value := l.map (Value.int .i64)
theorem iv_len (l : List Int) : (iv l).length = l.length := by simp [iv]
theorem iv_app (l k : List Int) : iv (l ++ k) = iv l ++ iv k := by simp [iv]
theorem iv_one (l : List Int) : ∀ u ∈ iv l, u.oneCell' = true := by
  intro u hu
  simp only [iv, List.mem_map] at hu
  obtain ⟨b, _, rfl⟩ := hu
  rfl
theorem info_i64 : (Tryd.prog.info? 3).map (fun i => (i.zero, i.size, i.bytes)) = some (some (.int .i64 0), 1, 8) := by kernel_rfl
/-- A list of numbers of the call's own. -/
def OwnI (W : World) (B : Nat) (v : Value) (l : List Int) : Prop := W.ownsRow B 3 1 v l.length (iv l)
theorem ownI_nil (W : World) (B : Nat) : OwnI W B (.slice none 0 0) [] := ⟨rfl, Or.inl ⟨rfl, rfl⟩⟩
theorem ownI_base {w : World} {B C : Nat} {v : Value} {l : List Int} (h : OwnI w B v l) (hc : C ≤ B) : OwnI w C v l := by
  rcases h with ⟨h1, ⟨rfl, h2⟩ | ⟨g, cap, cur, rfl, h3, h4⟩⟩
  · exact ⟨h1, Or.inl ⟨rfl, h2⟩⟩
  · exact ⟨h1, Or.inr ⟨g, cap, cur, rfl, Nat.le_trans hc h3, h4⟩⟩
theorem ownI_below {w w' : World} {B : Nat} {v : Value} {l : List Int} (h : OwnI w B v l) (hb : Below w.heap.size w w') : OwnI w' B v l := by
  rcases h with ⟨h1, ⟨rfl, h2⟩ | ⟨g, cap, cur, rfl, h3, h4, h5⟩⟩
  · exact ⟨h1, Or.inl ⟨rfl, h2⟩⟩
  · have hg : g < w.heap.size := (Array.getElem?_eq_some_iff.1 h4).1
    exact ⟨h1, Or.inr ⟨g, cap, cur, rfl, h3, by rw [hb.block g hg]; exact h4, h5⟩⟩
theorem ownI_form {w : World} {B : Nat} {v : Value} {l : List Int} (h : OwnI w B v l) : (v = .slice none 0 0 ∧ l = []) ∨ (∃ g cap, v = .slice (some ⟨g, 0, none⟩) l.length cap ∧ l.length ≤ cap ∧ cap ≤ maxLen ∧ g < w.heap.size ∧ B ≤ g) := by
  have hl := h.1
  rcases h.2 with ⟨rfl, hn⟩ | ⟨g, cap, cur, rfl, h3, h4, h5, h6, _⟩
  · exact Or.inl ⟨rfl, List.eq_nil_of_length_eq_zero hn⟩
  · exact Or.inr ⟨g, cap, rfl, h5, h6, (Array.getElem?_eq_some_iff.1 h4).1, h3⟩
theorem ownI_cell {w : World} {B g cap : Nat} {l : List Int} (h : OwnI w B (.slice (some ⟨g, 0, none⟩) l.length cap) l) (i : Nat) (hi : i < l.length) : w.cell? ⟨g, i, none⟩ = some (.int .i64 l[i]) := by
  have hc := World.ownsRow.cellAt (show w.ownsRow B 3 1 _ l.length (iv l) from h) i (by omega)
  rw [hc]
  simp [iv, hi]
/-- A row of numbers, wherever it lies. -/
def NRow (w : World) (a : Option Addr) (l : List Int) : Prop := ∀ i (hi : i < l.length), ∃ b off, a = some ⟨b, off, none⟩ ∧ w.cell? ⟨b, off + i, none⟩ = some (.int .i64 l[i])
theorem NRow.below {w w' : World} {a : Option Addr} {l : List Int} (h : NRow w a l) (hb : Below w.heap.size w w') : NRow w' a l := fun i hi => by
  obtain ⟨b, off, e, h1⟩ := h i hi
  refine ⟨b, off, e, ?_⟩
  rw [hb.cell (World.block_lt_of_cell? w _ h1)]
  exact h1
theorem NRow.of_block {w w' : World} {a : Option Addr} {l : List Int} (h : NRow w a l) (hb : ∀ g, a.map Addr.block = some g → g < w.heap.size → w'.heap[g]? = w.heap[g]?) : NRow w' a l := fun i hi => by
  obtain ⟨b, off, e, h1⟩ := h i hi
  refine ⟨b, off, e, ?_⟩
  rw [World.cell?_of_block (w := w) (hb b (by rw [e]; rfl) (World.block_lt_of_cell? w _ h1))]
  exact h1
theorem NRow.drewN {w : World} {a : Option Addr} {l : List Int} (h : NRow w a l) (k : Nat) : NRow (w.drewN k) a l := fun i hi => by
  obtain ⟨b, off, e, h1⟩ := h i hi
  exact ⟨b, off, e, h1⟩
theorem NRow.nil (w : World) (a : Option Addr) : NRow w a [] := fun i hi => by simp at hi
theorem ownI_row {w : World} {B n c : Nat} {a : Option Addr} {l : List Int} (h : OwnI w B (.slice a n c) l) : NRow w a l ∧ n = l.length := by
  rcases ownI_form h with ⟨h1, rfl⟩ | ⟨g, cap, h1, _⟩
  · injection h1 with h1 h2
    exact ⟨NRow.nil _ _, h2⟩
  · injection h1 with h1 h2 h3
    subst h1 h2 h3
    exact ⟨fun i hi => ⟨g, 0, rfl, by rw [Nat.zero_add]; exact ownI_cell h i hi⟩, rfl⟩
theorem ownI_slice {w : World} {B : Nat} {v : Value} {l : List Int} (h : OwnI w B v l) : ∃ a n c, v = .slice a n c := by
  rcases ownI_form h with ⟨h1, _⟩ | ⟨g, cap, h1, _⟩
  · exact ⟨_, _, _, h1⟩
  · exact ⟨_, _, _, h1⟩
/-- A row appended to a row of the call's own. -/
theorem appendI_row (w : World) (B : Nat) (v : Value) (l k : List Int) (a : Option Addr) (n c : Nat) (hown : OwnI w B v l) (hk : NRow w a k) (hn : n = k.length) (hB : B ≤ w.heap.size) (hsz : (l.length + k.length) * 8 ≤ 140737488355328) :
    ∃ v' w', (Builtin.append_ #[67, 67] 67 #[v, .slice a n c]).run Tryd.prog w = .ok v' w' ∧ OwnI w' B v' (l ++ k) ∧ Below B w w' := by
  subst hn
  obtain ⟨i0, hi, hz0, hz1, hz2⟩ := info_parts info_i64
  by_cases h0 : k.length = 0
  · have hk0 := List.eq_nil_of_length_eq_zero h0
    subst hk0
    refine ⟨v, w, ?_, by rw [List.append_nil]; exact hown, Below.refl _ _⟩
    cases a with
    | none =>
      rcases ownI_form hown with ⟨rfl, rfl⟩ | ⟨g, cap, rfl, hc, _⟩
      · simp [Builtin.append_, run_underlying Tryd.underlying67, sizeOf, typeInfo, hi, Builtin.lenOf, Builtin.firstCells]
      · simp [Builtin.append_, run_underlying Tryd.underlying67, sizeOf, typeInfo, hi, Builtin.lenOf, Builtin.firstCells, hc, storeCells]
    | some d =>
      rcases ownI_form hown with ⟨rfl, rfl⟩ | ⟨g, cap, rfl, hc, _⟩
      · simp [Builtin.append_, run_underlying Tryd.underlying67, sizeOf, typeInfo, hi, Builtin.lenOf, Builtin.firstCells, loadCells, loadCellsFrom]
      · simp [Builtin.append_, run_underlying Tryd.underlying67, sizeOf, typeInfo, hi, Builtin.lenOf, Builtin.firstCells, loadCells, loadCellsFrom, hc, storeCells]
  · obtain ⟨b, off, rfl, _⟩ := hk 0 (by omega)
    have hnews : ∀ j u, (iv k)[j]? = some u → w.cell? ((⟨b, off, none⟩ : Addr).add j) = some u := by
      intro j u hj
      have hjn : j < k.length := by
        rcases Nat.lt_or_ge j k.length with h' | h'
        · exact h'
        · rw [List.getElem?_eq_none (by rw [iv_len]; exact h')] at hj; cases hj
      obtain ⟨b', off', e, hc⟩ := hk j hjn
      injection e with e
      injection e with e1 e2
      subst e1 e2
      rw [add_off, hc, ← hj]
      simp [iv, hjn]
    obtain ⟨g, cap, w', hr, h2, h3, _, _⟩ := run_append_lies (P := Tryd.prog) w 67 67 B 3 i0 _ 1 8 Tryd.underlying67 hi hz0 hz1 hz2 rfl (by decide) v l.length (iv l) hown ⟨b, off, none⟩ k.length c (iv k) (by rw [iv_len, Nat.mul_one]) hnews (iv_one _) (by omega) (by unfold maxLen; omega) hsz hB w.heap.size rfl
    refine ⟨_, w', hr, ?_, (Below.refl _ _).grown h3 hB (fun j hj => (World.ownsRow.lt (show w.ownsRow B 3 1 v l.length (iv l) from hown) _ hj).1)⟩
    unfold OwnI
    rw [iv_app, List.length_append]
    exact h2
/-- A row of literal numbers. -/
theorem lit_row (W : World) (L : List Int) (t : TypeId) : NRow (W.alloc (.cells (iv L).toArray t)) (some ⟨W.heap.size, 0, none⟩) L := by
  intro i hi
  refine ⟨W.heap.size, 0, rfl, ?_⟩
  have h1 : (W.alloc (.cells (iv L).toArray t)).heap[W.heap.size]? = some (.cells (iv L).toArray t (0, 0)) := heap_alloc_new _ _
  simp [iv, hi, go_sem]
theorem lit_own (W : World) (x : Int) : OwnI (W.alloc (.cells #[.int .i64 x] 3)) W.heap.size (.slice (some ⟨W.heap.size, 0, none⟩) 1 1) [x] :=
  ⟨rfl, Or.inr ⟨W.heap.size, 1, #[.int .i64 x], rfl, Nat.le_refl _, heap_alloc_new W _, Nat.le_refl _, by unfold maxLen; omega, rfl, rfl⟩⟩
theorem i64_and3 (n : Int) : bits .and .i64 n 3 = n % 4 := by
  have h3 : (BitVec.ofInt 64 3).toNat = 2 ^ 2 - 1 := by decide
  have key : (BitVec.ofInt 64 n &&& BitVec.ofInt 64 3).toNat = (n % ((2 ^ 64 : Nat) : Int)).toNat % 2 ^ 2 := by
    rw [BitVec.toNat_and, BitVec.toNat_ofInt, h3, Nat.and_two_pow_sub_one_eq_mod]
  show IntKind.i64.wrap ((BitVec.ofInt 64 n &&& BitVec.ofInt 64 3).toNat : Nat) = n % 4
  rw [key, IntKind.wrap_i64]
  omega
end BnI
end Go.Proofs.YtkiidlnimjjnlaaDoor

namespace Go.Proofs.YtkiidlnimjjnlaaDoor
open Go.RowKit BnI
open BerMath (Hd HR num hAt wAt El TR elEnd endE one andThen kids)
set_option linter.unusedVariables false
set_option maxRecDepth 100000
namespace BrM

/-- A place as it lies. -/
def plV (x : El) : List Value := [.int .i64 (x.1 : Int), .int .i64 (x.2.1.cls : Int), .bool x.2.1.made, .int .i64 (x.2.1.tag : Int), .int .i64 (x.2.1.len : Int), .int .i64 (x.2.1.size : Int)]
def pv (l : List El) : List Value := l.flatMap plV
theorem pv_snoc (l : List El) (e : El) : pv (l ++ [e]) = pv l ++ plV e := by simp [pv]
theorem plV_one (e : El) : ∀ u ∈ plV e, u.oneCell' = true := by
  intro u hu
  simp [plV] at hu
  rcases hu with rfl | rfl | rfl | rfl | rfl | rfl <;> rfl
theorem info_place : (Tryd.prog.info? 76).map (fun i => (i.zero, i.size, i.bytes)) = some (some (.agg #[.int .i64 0, .int .i64 0, .bool false, .int .i64 0, .int .i64 0, .int .i64 0]), 6, 48) := by kernel_rfl
/-- A list of places of the call's own. -/
def OwnP (W : World) (B : Nat) (v : Value) (l : List El) : Prop := W.ownsRow B 76 6 v l.length (pv l)
theorem ownP_nil (W : World) (B : Nat) : OwnP W B (.slice none 0 0) [] := ⟨rfl, Or.inl ⟨rfl, rfl⟩⟩
theorem own_below {w w' : World} {B : Nat} {t : TypeId} {k : Nat} {v : Value} {n : Nat} {xs : List Value} (h : w.ownsRow B t k v n xs) (hb : Below w.heap.size w w') : w'.ownsRow B t k v n xs := by
  rcases h with ⟨h1, ⟨rfl, h2⟩ | ⟨g, cap, cur, rfl, h3, h4, h5⟩⟩
  · exact ⟨h1, Or.inl ⟨rfl, h2⟩⟩
  · have hg : g < w.heap.size := (Array.getElem?_eq_some_iff.1 h4).1
    exact ⟨h1, Or.inr ⟨g, cap, cur, rfl, h3, by rw [hb.block g hg]; exact h4, h5⟩⟩
/-- Rows of other types lie elsewhere. -/
theorem own_ne {w : World} {B B' : Nat} {t t' : TypeId} {k k' : Nat} {v u : Value} {n n' : Nat} {xs ys : List Value} (h : w.ownsRow B t k v n xs) (h' : w.ownsRow B' t' k' u n' ys) (ht : t ≠ t') : v.ownBlock = none ∨ v.ownBlock ≠ u.ownBlock := by
  rcases h.2 with ⟨rfl, _⟩ | ⟨g, cap, cur, rfl, _, hg, _⟩
  · exact Or.inl rfl
  · refine Or.inr (fun e => ?_)
    rcases h'.2 with ⟨rfl, _⟩ | ⟨g', cap', cur', rfl, _, hg', _⟩
    · simp [Value.ownBlock] at e
    · simp [Value.ownBlock] at e
      subst e
      rw [hg] at hg'
      injection hg' with hg'
      injection hg' with _ hg'
      exact ht hg'
theorem own_far {w : World} {B : Nat} {t t' : TypeId} {k : Nat} {v : Value} {n : Nat} {xs : List Value} {g : Nat} {cur : Array Value} {z} (h : w.ownsRow B t k v n xs) (hg : w.heap[g]? = some (.cells cur t' z)) (ht : t ≠ t') : some g ≠ v.ownBlock := by
  rcases h.2 with ⟨rfl, _⟩ | ⟨g', cap', cur', rfl, _, hg', _⟩
  · simp [Value.ownBlock]
  · intro e
    simp [Value.ownBlock] at e
    subst e
    rw [hg] at hg'
    injection hg' with hg'
    injection hg' with _ hg'
    exact ht hg'.symm
theorem dis_symm {v u : Value} (h : v.ownBlock = none ∨ v.ownBlock ≠ u.ownBlock) : u.ownBlock = none ∨ u.ownBlock ≠ v.ownBlock := by
  rcases h with h | h
  · cases hu : u.ownBlock with
    | none => exact Or.inl rfl
    | some x => rw [h]; exact Or.inr (by simp)
  · exact Or.inr (fun e => h e.symm)
theorem appendP_one (w : World) (B : Nat) (v : Value) (l : List El) (e : El) (g : Nat) (hown : OwnP w B v l) (hg : w.heap[g]? = some (.cells (plV e).toArray 76 (0, 0))) (hB : B ≤ w.heap.size) (hl : l.length ≤ 4294967296) :
    ∃ g' cap w', (Builtin.append_ #[70, 70] 70 #[v, .slice (some ⟨g, 0, none⟩) 1 1]).run Tryd.prog w = .ok (.slice (some ⟨g', 0, none⟩) (l.length + 1) cap) w' ∧ OwnP w' B (.slice (some ⟨g', 0, none⟩) (l.length + 1) cap) (l ++ [e]) ∧ w.grownBy w' v.ownBlock := by
  obtain ⟨i0, hi, hz0, hz1, hz2⟩ := info_parts info_place
  obtain ⟨g', cap, w', hr, h2, h3, _, _⟩ := run_append_lies (P := Tryd.prog) w 70 70 B 76 i0 _ 6 48 Tryd.underlying70 hi hz0 hz1 hz2 rfl (by decide) v l.length (pv l) hown ⟨g, 0, none⟩ 1 1 (plV e) rfl (World.news_of_block hg) (plV_one e) (by decide) (by unfold maxLen; omega) (by omega) hB w.heap.size rfl
  refine ⟨g', cap, w', hr, ?_, h3⟩
  unfold OwnP
  rw [pv_snoc, List.length_append]
  exact h2
theorem appendI_one (w : World) (B : Nat) (v : Value) (l : List Int) (x : Int) (g : Nat) (hown : OwnI w B v l) (hg : w.heap[g]? = some (.cells #[.int .i64 x] 3 (0, 0))) (hB : B ≤ w.heap.size) (hl : l.length ≤ 4294967296) :
    ∃ g' cap w', (Builtin.append_ #[67, 67] 67 #[v, .slice (some ⟨g, 0, none⟩) 1 1]).run Tryd.prog w = .ok (.slice (some ⟨g', 0, none⟩) (l.length + 1) cap) w' ∧ OwnI w' B (.slice (some ⟨g', 0, none⟩) (l.length + 1) cap) (l ++ [x]) ∧ w.grownBy w' v.ownBlock ∧ (v.ownBlock = some g' ∨ g' = w.heap.size) := by
  obtain ⟨i0, hi, hz0, hz1, hz2⟩ := info_parts info_i64
  obtain ⟨g', cap, w', hr, h2, h3, h4, _⟩ := run_append_lies (P := Tryd.prog) w 67 67 B 3 i0 _ 1 8 Tryd.underlying67 hi hz0 hz1 hz2 rfl (by decide) v l.length (iv l) hown ⟨g, 0, none⟩ 1 1 (iv [x]) rfl (World.news_of_block hg) (iv_one _) (by decide) (by unfold maxLen; omega) (by omega) hB w.heap.size rfl
  refine ⟨g', cap, w', hr, ?_, h3, h4⟩
  unfold OwnI
  rw [iv_app, List.length_append]
  exact h2
theorem ownI_pop {w : World} {B : Nat} {v : Value} {l : List Int} {x : Int} (h : OwnI w B v (l ++ [x])) :
    ∃ g cap, v = .slice (some ⟨g, 0, none⟩) (l.length + 1) cap ∧ l.length + 1 ≤ cap ∧ w.cell? ⟨g, l.length, none⟩ = some (.int .i64 x) ∧ OwnI w B (.slice (some ⟨g, 0, none⟩) l.length cap) l := by
  have h0 := h
  obtain ⟨h1, ⟨_, h2⟩ | ⟨g, cap, cur, rfl, h3, h4, h5, h6, h7, h8⟩⟩ := h
  · simp at h2
  · rw [List.length_append] at h0 h5 h8 ⊢
    simp only [List.length_cons, List.length_nil, Nat.zero_add, Nat.mul_one] at h0 h5 h7 h8 ⊢
    refine ⟨g, cap, rfl, h5, ?_, ?_⟩
    · have hc := World.ownsRow.cellAt (show w.ownsRow B 3 1 (.slice (some ⟨g, 0, none⟩) (l.length + 1) cap) (l.length + 1) (iv (l ++ [x])) from by have := h0; unfold OwnI at this; rw [List.length_append] at this; exact this) l.length (by omega)
      rw [hc]
      simp [iv]
    · refine ⟨by rw [iv_len]; omega, Or.inr ⟨g, cap, cur, rfl, h3, h4, by omega, h6, by omega, ?_⟩⟩
      rw [Nat.mul_one]
      have : (cur.toList.take (l.length + 1)).take l.length = cur.toList.take l.length := by rw [List.take_take, Nat.min_eq_left (by omega)]
      rw [← this, h8, iv_app, ← iv_len l, List.take_left]
/-- The ends and the depths as numbers. -/
def ends (st : List Nat) : List Int := st.reverse.map (fun (n : Nat) => (n : Int))
theorem ends_cons (e : Nat) (st : List Nat) : ends (e :: st) = ends st ++ [(e : Int)] := by simp [ends]
theorem ends_len (st : List Nat) : (ends st).length = st.length := by simp [ends]
def deps (l : List El) : List Int := l.map (fun x => (x.2.2 : Int))
theorem deps_snoc (l : List El) (x : El) : deps (l ++ [x]) = deps l ++ [(x.2.2 : Int)] := by simp [deps]
theorem deps_len (l : List El) : (deps l).length = l.length := by simp [deps]
def Mem (W : World) (B : Nat) (lv dv ev : Value) (l : List El) (st : List Nat) : Prop := OwnP W B lv l ∧ OwnI W B dv (deps l) ∧ OwnI W B ev (ends st) ∧ (dv.ownBlock = none ∨ dv.ownBlock ≠ ev.ownBlock)
theorem Mem.below {W W' : World} {B : Nat} {lv dv ev : Value} {l : List El} {st : List Nat} (h : Mem W B lv dv ev l st) (hb : Below W.heap.size W W') : Mem W' B lv dv ev l st := ⟨own_below h.1 hb, own_below h.2.1 hb, own_below h.2.2.1 hb, h.2.2.2⟩
theorem Mem.pop {W : World} {B : Nat} {lv dv ev : Value} {l : List El} {e : Nat} {st : List Nat} (h : Mem W B lv dv ev l (e :: st)) :
    ∃ g cap, ev = .slice (some ⟨g, 0, none⟩) (st.length + 1) cap ∧ st.length + 1 ≤ cap ∧ W.cell? ⟨g, st.length, none⟩ = some (.int .i64 (e : Int)) ∧ Mem W B lv dv (.slice (some ⟨g, 0, none⟩) st.length cap) l st := by
  obtain ⟨h1, h2, h3, h4⟩ := h
  rw [ends_cons] at h3
  obtain ⟨g, cap, rfl, q1, q2, q3⟩ := ownI_pop h3
  rw [ends_len] at q1 q2 q3 ⊢
  exact ⟨g, cap, rfl, q1, q2, h1, h2, q3, h4⟩
/-- The three lists, one element more. -/
theorem Mem.step {W : World} {B : Nat} {lv dv ev : Value} {l : List El} {st : List Nat} (h : Mem W B lv dv ev l st) (hB : B ≤ W.heap.size) (hl : l.length ≤ 4294967295) (hs : st.length ≤ 64) (x : El) (E : Nat) (gh : Nat) (hc : Array Value) (hgh : W.heap[gh]? = some (.cells hc 74 (0, 0))) :
    ∃ g1 c1 w1 g2 c2 w2 g3 c3 w3, (Builtin.append_ #[70, 70] 70 #[lv, .slice (some ⟨W.heap.size, 0, none⟩) 1 1]).run Tryd.prog (W.alloc (.cells (plV x).toArray 76)) = .ok (.slice (some ⟨g1, 0, none⟩) (l.length + 1) c1) w1 ∧
      (Builtin.append_ #[67, 67] 67 #[dv, .slice (some ⟨w1.heap.size, 0, none⟩) 1 1]).run Tryd.prog (w1.alloc (.cells #[.int .i64 (x.2.2 : Int)] 3)) = .ok (.slice (some ⟨g2, 0, none⟩) (l.length + 1) c2) w2 ∧
      (Builtin.append_ #[67, 67] 67 #[ev, .slice (some ⟨w2.heap.size, 0, none⟩) 1 1]).run Tryd.prog (w2.alloc (.cells #[.int .i64 (E : Int)] 3)) = .ok (.slice (some ⟨g3, 0, none⟩) (st.length + 1) c3) w3 ∧
      Mem w3 B (.slice (some ⟨g1, 0, none⟩) (l.length + 1) c1) (.slice (some ⟨g2, 0, none⟩) (l.length + 1) c2) (.slice (some ⟨g3, 0, none⟩) (st.length + 1) c3) (l ++ [x]) (E :: st) ∧
      w1.heap[gh]? = some (.cells hc 74 (0, 0)) ∧ w2.heap[gh]? = some (.cells hc 74 (0, 0)) ∧ w3.heap[gh]? = some (.cells hc 74 (0, 0)) ∧ Below B W w3 := by
  obtain ⟨h1, h2, h3, h4⟩ := h
  have hlt : gh < W.heap.size := (Array.getElem?_eq_some_iff.1 hgh).1
  have b0 : Below B W (W.alloc (.cells (plV x).toArray 76)) := (Below.refl _ _).alloc hB _
  obtain ⟨g1, c1, w1, e1, o1, gr1⟩ := appendP_one (W.alloc (.cells (plV x).toArray 76)) B lv l x W.heap.size (World.ownsRow.alloc h1 _) (heap_alloc_new _ _) (by simp; omega) (by omega)
  have a1 : (W.alloc (.cells (plV x).toArray 76)).heap[gh]? = some (.cells hc 74 (0, 0)) := by rw [heap_alloc_old _ _ hlt]; exact hgh
  have k1 : w1.heap[gh]? = some (.cells hc 74 (0, 0)) := by rw [gr1.block gh (Array.getElem?_eq_some_iff.1 a1).1 (own_far (World.ownsRow.alloc h1 _) a1 (by decide))]; exact a1
  have d1 : OwnI w1 B dv (deps l) := World.ownsRow.kept (World.ownsRow.alloc h2 _) gr1 (own_ne h2 h1 (by decide))
  have f1 : OwnI w1 B ev (ends st) := World.ownsRow.kept (World.ownsRow.alloc h3 _) gr1 (own_ne h3 h1 (by decide))
  have b1 : Below B W w1 := b0.grown gr1 (by simp; omega) (fun j hj => (World.ownsRow.lt h1 _ hj).1)
  have hB1 : B ≤ w1.heap.size := Nat.le_trans hB b1.size
  obtain ⟨g2, c2, w2, e2, o2, gr2, p2⟩ := appendI_one (w1.alloc (.cells #[.int .i64 (x.2.2 : Int)] 3)) B dv (deps l) (x.2.2 : Int) w1.heap.size (World.ownsRow.alloc d1 _) (heap_alloc_new _ _) (by simp; omega) (by rw [deps_len]; omega)
  have a2 : (w1.alloc (.cells #[.int .i64 (x.2.2 : Int)] 3)).heap[gh]? = some (.cells hc 74 (0, 0)) := by rw [heap_alloc_old _ _ (Array.getElem?_eq_some_iff.1 k1).1]; exact k1
  have k2 : w2.heap[gh]? = some (.cells hc 74 (0, 0)) := by rw [gr2.block gh (Array.getElem?_eq_some_iff.1 a2).1 (own_far (World.ownsRow.alloc d1 _) a2 (by decide))]; exact a2
  have o1' : OwnP w2 B _ _ := World.ownsRow.kept (World.ownsRow.alloc o1 (.cells #[.int .i64 (x.2.2 : Int)] 3)) gr2 (own_ne o1 d1 (by decide))
  have f2 : OwnI w2 B ev (ends st) := World.ownsRow.kept (World.ownsRow.alloc f1 _) gr2 (dis_symm h4)
  have b2 : Below B W w2 := (b1.alloc hB1 _).grown gr2 (by simp; omega) (fun j hj => (World.ownsRow.lt d1 _ hj).1)
  have hB2 : B ≤ w2.heap.size := Nat.le_trans hB b2.size
  have dis2 : (Value.slice (some ⟨g2, 0, none⟩) ((deps l).length + 1) c2).ownBlock = none ∨ (Value.slice (some ⟨g2, 0, none⟩) ((deps l).length + 1) c2).ownBlock ≠ ev.ownBlock := by
    refine Or.inr (fun e => ?_)
    have e' : ev.ownBlock = some g2 := by rw [← e]; rfl
    rcases p2 with p2 | p2
    · rcases h4 with h4 | h4
      · rw [h4] at p2; cases p2
      · exact h4 (by rw [p2, e'])
    · have := (World.ownsRow.lt f1 _ e').2
      rw [p2] at this
      simp at this
      omega
  obtain ⟨g3, c3, w3, e3, o3, gr3, p3⟩ := appendI_one (w2.alloc (.cells #[.int .i64 (E : Int)] 3)) B ev (ends st) (E : Int) w2.heap.size (World.ownsRow.alloc f2 _) (heap_alloc_new _ _) (by simp; omega) (by rw [ends_len]; omega)
  have a3 : (w2.alloc (.cells #[.int .i64 (E : Int)] 3)).heap[gh]? = some (.cells hc 74 (0, 0)) := by rw [heap_alloc_old _ _ (Array.getElem?_eq_some_iff.1 k2).1]; exact k2
  have k3 : w3.heap[gh]? = some (.cells hc 74 (0, 0)) := by rw [gr3.block gh (Array.getElem?_eq_some_iff.1 a3).1 (own_far (World.ownsRow.alloc f2 _) a3 (by decide))]; exact a3
  have o1'' : OwnP w3 B _ _ := World.ownsRow.kept (World.ownsRow.alloc o1' (.cells #[.int .i64 (E : Int)] 3)) gr3 (own_ne o1' f2 (by decide))
  have o2' : OwnI w3 B _ _ := World.ownsRow.kept (World.ownsRow.alloc o2 (.cells #[.int .i64 (E : Int)] 3)) gr3 dis2
  have b3 : Below B W w3 := (b2.alloc hB2 _).grown gr3 (by simp; omega) (fun j hj => (World.ownsRow.lt f2 _ hj).1)
  have dis3 : (Value.slice (some ⟨g2, 0, none⟩) ((deps l).length + 1) c2).ownBlock = none ∨ (Value.slice (some ⟨g2, 0, none⟩) ((deps l).length + 1) c2).ownBlock ≠ (Value.slice (some ⟨g3, 0, none⟩) ((ends st).length + 1) c3).ownBlock := by
    refine Or.inr (fun e => ?_)
    have e' : g2 = g3 := by simpa [Value.ownBlock] using e
    subst e'
    rcases p3 with p3 | p3
    · rcases dis2 with q | q
      · simp [Value.ownBlock] at q
      · exact q (by rw [p3]; rfl)
    · have := (World.ownsRow.lt o2 g2 rfl).2
      rw [p3] at this
      simp at this
      omega
  rw [deps_len] at e2 o2' dis3
  rw [ends_len] at e3 o3 dis3
  exact ⟨g1, c1, w1, g2, c2, w2, g3, c3, w3, e1, e2, e3, ⟨o1'', by rw [deps_snoc]; exact o2', by rw [ends_cons]; exact o3, dis3⟩, k1, k2, k3, b3⟩
end BrM
end Go.Proofs.YtkiidlnimjjnlaaDoor

namespace Go.Proofs.YtkiidlnimjjnlaaDoor
open Go.RowKit
open BerMath (Hd HR num hAt wAt)

/-- What the reference's whole answers. -/
def refWV (b : List UInt8) (p e : Nat) : Value :=
  match wAt b p e with
  | .ok h => .tuple #[hdV h, .int .i64 0, .int .i64 (p : Int)]
  | .error (some (c, q)) => .tuple #[.agg hdZ.toArray, .int .i64 (c : Int), .int .i64 (q : Int)]
  | .error none => .tuple #[.agg hdZ.toArray, .int .i64 (-1), .int .i64 (e : Int)]

theorem hAt_er (b : List UInt8) (p e c q : Nat) (h : hAt b p e = HR.er c q) : c = 21 ∨ c = 22 ∨ c = 23 := by
  unfold hAt at h
  split at h
  · cases h
  split at h
  · have h1 := (BerMath.er_inj h).1; omega
  split at h
  · cases h
  split at h
  · have h1 := (BerMath.er_inj h).1; omega
  split at h
  · have h1 := (BerMath.er_inj h).1; omega
  split at h
  · cases h
  split at h
  · cases h
  · cases h

/-- The ways through it: no header; a header whose content isn't there; a whole element. -/
theorem refW_cases (b : List UInt8) (p e : Nat) :
    (∃ (c q : Int), (c == 0) = false ∧ refHV b p e = .tuple #[.agg #[.int .i64 0, .bool false, .int .i64 0, .int .i64 0, .int .i64 0], .int .i64 c, .int .i64 q] ∧ refWV b p e = .tuple #[.agg #[.int .i64 0, .bool false, .int .i64 0, .int .i64 0, .int .i64 0], .int .i64 c, .int .i64 q]) ∨
    (∃ h, hAt b p e = .ok h ∧ refHV b p e = .tuple #[hdV h, .int .i64 0, .int .i64 (p : Int)] ∧ e < p + h.size + h.len ∧ refWV b p e = .tuple #[.agg #[.int .i64 0, .bool false, .int .i64 0, .int .i64 0, .int .i64 0], .int .i64 (-1), .int .i64 (e : Int)]) ∨
    (∃ h, hAt b p e = .ok h ∧ refHV b p e = .tuple #[hdV h, .int .i64 0, .int .i64 (p : Int)] ∧ ¬ e < p + h.size + h.len ∧ refWV b p e = .tuple #[hdV h, .int .i64 0, .int .i64 (p : Int)]) := by
  unfold refHV refWV wAt
  cases hh : hAt b p e with
  | ok h =>
    by_cases h1 : e < p + (h.size + h.len)
    · refine Or.inr (Or.inl ⟨h, rfl, rfl, by omega, ?_⟩)
      simp only [if_pos h1]; rfl
    · refine Or.inr (Or.inr ⟨h, rfl, rfl, by omega, ?_⟩)
      simp only [if_neg h1]
  | error o =>
    cases o with
    | some cq =>
      obtain ⟨c, q⟩ := cq
      have hc := hAt_er _ _ _ _ _ hh
      exact Or.inl ⟨(c : Int), (q : Int), by rw [beq_eq_false_iff_ne]; omega, rfl, rfl⟩
    | none => exact Or.inl ⟨-1, (e : Int), rfl, rfl, rfl⟩

theorem w_pq (p x : Nat) (hp : p ≤ 140737488355328) (hx : x ≤ 6) : wrap64 ((p : Int) + (x : Int)) = ((p + x : Nat) : Int) := by unfold wrap64; omega
theorem w_pqr (p x y : Nat) (hp : p ≤ 140737488355328) (hx : x ≤ 6) (hy : y < 4294967296) : wrap64 (((p + x : Nat) : Int) + (y : Int)) = ((p + x + y : Nat) : Int) := by unfold wrap64; omega

set_option maxHeartbeats 1000000 in
theorem refWhole_any (s : ByteArray) (p e : Nat) (w : World) (he : e ≤ s.size) (hm : s.size ≤ 140737488355328) (hp : p ≤ e) :
    Calls Tryd.prog 52 #[.string s, .int .i64 (p : Int), .int .i64 (e : Int)] w fun r w' => r = .returned (refWV s.data.toList p e) ∧ Below w.heap.size w w' := by
  have hH : ∀ W, Hid (Calls Tryd.prog 66 #[.string s, .int .i64 (p : Int), .int .i64 (e : Int)] W fun r w' => r = .returned (refHV s.data.toList p e) ∧ Below W.heap.size W w') := fun W => refHeadAt_any s p e W he hm hp
  have hpm : p ≤ 140737488355328 := Nat.le_trans hp (Nat.le_trans he hm)
  have hz : ∀ w', Below (w.heap.size + 1) (w.alloc (.cells #[.int .i64 0, .bool false, .int .i64 0, .int .i64 0, .int .i64 0] 74)) w' → Cells w' w.heap.size hdZ := fun w' hb => by
    have h0 : Cells (w.alloc (.cells #[.int .i64 0, .bool false, .int .i64 0, .int .i64 0, .int .i64 0] 74)) w.heap.size hdZ := by
      intro j hj
      have : j = 0 ∨ j = 1 ∨ j = 2 ∨ j = 3 ∨ j = 4 := by simp [hdZ] at hj; omega
      rcases this with rfl | rfl | rfl | rfl | rfl <;> simp [go_sem, hdZ]
    exact h0.of_block (hb.block _ (Nat.lt_succ_self _))
  have key : ∀ (l0 : Int) (l1 : Bool) (l2 l3 l4 c q : Int) (dd : Bool) (A E : Int) (m0 : Int) (m1 : Bool) (m2 m3 m4 c' q' : Int),
      refHV s.data.toList p e = .tuple #[.agg #[.int .i64 l0, .bool l1, .int .i64 l2, .int .i64 l3, .int .i64 l4], .int .i64 c, .int .i64 q] →
      ((c == 0) = false ∧ m0 = l0 ∧ m1 = l1 ∧ m2 = l2 ∧ m3 = l3 ∧ m4 = l4 ∧ c' = c ∧ q' = q ∨ c = 0 ∧ wrap64 ((p : Int) + l4) = A ∧ wrap64 (A + l3) = E ∧ decide ((e : Int) < E) = dd ∧ (dd = true ∧ m0 = 0 ∧ m1 = false ∧ m2 = 0 ∧ m3 = 0 ∧ m4 = 0 ∧ c' = -1 ∧ q' = (e : Int) ∨ dd = false ∧ m0 = l0 ∧ m1 = l1 ∧ m2 = l2 ∧ m3 = l3 ∧ m4 = l4 ∧ c' = c ∧ q' = q)) →
      Calls Tryd.prog 52 #[.string s, .int .i64 (p : Int), .int .i64 (e : Int)] w fun r w' => r = .returned (.tuple #[.agg #[.int .i64 m0, .bool m1, .int .i64 m2, .int .i64 m3, .int .i64 m4], .int .i64 c', .int .i64 q']) ∧ Below w.heap.size w w' := by
    intro l0 l1 l2 l3 l4 c q dd A E m0 m1 m2 m3 m4 c' q' hv hc
    rw [hv] at hH
    clear hv he hm hp hpm
    rcases hc with ⟨hc0, rfl, rfl, rfl, rfl, rfl, rfl, rfl⟩ | ⟨rfl, hA, hE, hd, ⟨rfl, rfl, rfl, rfl, rfl, rfl, rfl, rfl⟩ | ⟨rfl, rfl, rfl, rfl, rfl, rfl, rfl, rfl⟩⟩
    all_goals
      go_enter Tryd.func52, Tryd.ntmps52
      go_wp2_with fail
      refine (hH _).out.mono ?_
      rintro r w1 ⟨rfl, hb⟩
      have hb' : Below (w.heap.size + 1) (w.alloc (.cells #[.int .i64 0, .bool false, .int .i64 0, .int .i64 0, .int .i64 0] 74)) w1 := by simpa using hb
      have hrb := hz w1 hb'
      have r0 : w1.cell? ⟨w.heap.size, 0, none⟩ = some (.int .i64 0) := (hrb 0 (by simp [hdZ])).1
      have r1 : w1.cell? ⟨w.heap.size, 1, none⟩ = some (.bool false) := (hrb 1 (by simp [hdZ])).1
      have r2 : w1.cell? ⟨w.heap.size, 2, none⟩ = some (.int .i64 0) := (hrb 2 (by simp [hdZ])).1
      have r3 : w1.cell? ⟨w.heap.size, 3, none⟩ = some (.int .i64 0) := (hrb 3 (by simp [hdZ])).1
      have r4 : w1.cell? ⟨w.heap.size, 4, none⟩ = some (.int .i64 0) := (hrb 4 (by simp [hdZ])).1
      have z0 : w1.frozen? ⟨w.heap.size, 0, none⟩ = false := (hrb 0 (by simp [hdZ])).2
      have z1 : w1.frozen? ⟨w.heap.size, 1, none⟩ = false := (hrb 1 (by simp [hdZ])).2
      have z2 : w1.frozen? ⟨w.heap.size, 2, none⟩ = false := (hrb 2 (by simp [hdZ])).2
      have z3 : w1.frozen? ⟨w.heap.size, 3, none⟩ = false := (hrb 3 (by simp [hdZ])).2
      have z4 : w1.frozen? ⟨w.heap.size, 4, none⟩ = false := (hrb 4 (by simp [hdZ])).2
      have n1 : w.heap.size < w1.heap.size := by have := hb'.size; simp at this; omega
      have HB : Below w.heap.size w w1 := ((Below.refl _ _).alloc (Nat.le_refl _) _).trans (hb'.mono (Nat.le_succ _))
      clear hrb hb hb' hH hz
      go_wp2_with fail
      refine bodyPost_ret_by (by
        simp [results, Tryd.results52, go_sem, r0, r1, r2, r3, r4, n1]) rfl ⟨rfl, ?_⟩
      refine Below.alloc (Below.setCell (Below.setCell (Below.setCell (Below.setCell (Below.setCell HB ?_ _) ?_ _) ?_ _) ?_ _) ?_ _) (by simp only [World.size_setCell]; exact Nat.le_of_lt n1) _
      all_goals exact Nat.le_refl _
  rcases refW_cases s.data.toList p e with ⟨c, q, h1, h2, h3⟩ | ⟨h, h0, h2, h4, h3⟩ | ⟨h, h0, h2, h4, h3⟩
  · rw [h3]
    exact key _ _ _ _ _ c q false 0 0 _ _ _ _ _ _ _ h2 (Or.inl ⟨h1, rfl, rfl, rfl, rfl, rfl, rfl, rfl⟩)
  · rw [h3]
    obtain ⟨k1, k2, k3, _⟩ := BerMath.hAt_ok _ _ _ _ h0
    exact key _ _ _ _ _ 0 (p : Int) true _ _ _ _ _ _ _ _ _ h2 (Or.inr ⟨rfl, w_pq p h.size hpm k2, w_pqr p h.size h.len hpm k2 k3, decide_eq_true (by omega), Or.inl ⟨rfl, rfl, rfl, rfl, rfl, rfl, rfl, rfl⟩⟩)
  · rw [h3]
    obtain ⟨k1, k2, k3, _⟩ := BerMath.hAt_ok _ _ _ _ h0
    exact key _ _ _ _ _ 0 (p : Int) false _ _ _ _ _ _ _ _ _ h2 (Or.inr ⟨rfl, w_pq p h.size hpm k2, w_pqr p h.size h.len hpm k2 k3, decide_eq_false (by omega), Or.inr ⟨rfl, rfl, rfl, rfl, rfl, rfl, rfl, rfl⟩⟩)
end Go.Proofs.YtkiidlnimjjnlaaDoor
