import Derived.Test.YtkiidlnimjjnlaaDoorBhSpN
namespace Go.Proofs.YtkiidlnimjjnlaaDoor
open BerMath (Hd HR num hAt wAt El TR elEnd endE one andThen kids)
set_option linter.unusedVariables false

theorem extr_b (s : ByteArray) (p q : Nat) : (s.extract p q).data.toList = (s.data.toList.take q).drop p := by rw [Lib.extract_data]; simp [List.drop_take]
theorem getD_drop (b : List UInt8) (p j : Nat) : (b.drop p).getD j 0 = b.getD (p + j) 0 := by
  simp [List.getD]
theorem hAt_shift (b : List UInt8) (p e : Nat) (h : Hd) (hp : p ≤ e) (hh : hAt (b.drop p) 0 (e - p) = .ok h) : hAt b p e = .ok h := by
  unfold hAt at hh ⊢
  rw [getD_drop, getD_drop, Nat.add_zero, Nat.zero_add, List.drop_drop] at hh
  rw [Nat.zero_add, Nat.zero_add] at hh
  by_cases h1 : e ≤ p
  · rw [if_pos (by omega)] at hh; cases hh
  rw [if_neg (by omega)] at hh
  rw [if_neg h1]
  by_cases h2 : (b.getD p 0).toNat % 32 = 31
  · rw [if_pos h2] at hh; cases hh
  rw [if_neg h2] at hh ⊢
  by_cases h3 : e ≤ p + 1
  · rw [if_pos (by omega)] at hh; cases hh
  rw [if_neg (by omega)] at hh
  rw [if_neg h3]
  by_cases h4 : (b.getD (p + 1) 0).toNat = 128
  · rw [if_pos h4] at hh; cases hh
  rw [if_neg h4] at hh ⊢
  by_cases h5 : 132 < (b.getD (p + 1) 0).toNat
  · rw [if_pos h5] at hh; cases hh
  rw [if_neg h5] at hh ⊢
  by_cases h6 : (b.getD (p + 1) 0).toNat < 128
  · rw [if_pos h6] at hh ⊢; exact hh
  rw [if_neg h6] at hh ⊢
  by_cases h7 : e < p + ((b.getD (p + 1) 0).toNat - 126)
  · rw [if_pos (by omega)] at hh; cases hh
  rw [if_neg (by omega)] at hh
  rw [if_neg h7]
  exact hh
/-- Where a node begins. -/
abbrev posB (H : Nat → List UInt8) (B : Nat → ByteArray) (i : Nat) : Nat := (outB H B 0 i).length
theorem pos_by (H : Nat → List UInt8) (B : Nat → ByteArray) (a z : Nat) (h : a ≤ z) : posB H B z = posB H B a + byB H B a z := by
  have := byB_add H B 0 a z (Nat.zero_le _) h
  unfold byB at this
  rw [Nat.sub_zero, Nat.sub_zero] at this
  exact this
theorem out_drop (H : Nat → List UInt8) (B : Nat → ByteArray) (n i : Nat) (hi : i < n) (more : List UInt8) : (outB H B 0 n ++ more).drop (posB H B i) = H i ++ ((B i).data.toList ++ (outB H B (i + 1) (n - (i + 1)) ++ more)) := by
  rw [show n = i + ((n - (i + 1)) + 1) from by omega, outB_app, List.append_assoc, List.drop_left, Nat.zero_add, outB_cons]
  rw [show i + (n - (i + 1) + 1) - (i + 1) = n - (i + 1) from by omega]
  simp [List.append_assoc]
theorem choose2 {p : Nat → Nat → Nat → Prop} {n : Nat} (h : ∀ j, j < n → ∃ a b, p j a b) : ∃ f g : Nat → Nat, ∀ j, j < n → p j (f j) (g j) := by
  have h' : ∀ j, ∃ ab : Nat × Nat, j < n → p j ab.1 ab.2 := fun j => by
    by_cases hj : j < n
    · obtain ⟨a, b, q⟩ := h j hj
      exact ⟨(a, b), fun _ => q⟩
    · exact ⟨(0, 0), fun q => absurd q hj⟩
  obtain ⟨f, hf⟩ := Classical.axiomOfChoice h'
  exact ⟨fun j => (f j).1, fun j => (f j).2, fun j hj => hf j hj⟩
/-- What spelt lays is laid. -/
theorem laid_of {n : Nat} {D C T : Nat → Int} {M : Nat → Bool} {B : Nat → ByteArray} {σ : List Nat} {H : Nat → List UInt8} (hX : SpX n 0 D C T M B σ H) (hG : ∀ i, i < n → Good D C T M B i) :
    ∃ L k : Nat → Nat, (∀ i, i < n → H i = hdrL (C i).toNat (M i) (T i).toNat (L i) (k i) ∧ Says (L i) (k i)) ∧ ∀ more, Laid (outB H B 0 n ++ more) n D C T M (fun i => (B i).size) L k (posB H B) := by
  obtain ⟨L, k, hLk⟩ := choose2 (fun j hj => hX.2 j (Nat.zero_le _) hj)
  refine ⟨L, k, fun i hi => ⟨(hLk i hi).1, (hLk i hi).2.1⟩, fun more => ⟨?_, ?_, ?_, ?_, ?_, ?_⟩⟩
  · intro i hi
    have h1 := pos_by H B i (i + 1) (by omega)
    rw [byB_one, (hLk i hi).1, hdrL_len] at h1
    omega
  · intro i hi e he
    obtain ⟨g1, g2, g3, g4, _⟩ := hG i hi
    refine hAt_shift _ _ _ _ (by omega) ?_
    rw [out_drop H B n i hi more, (hLk i hi).1]
    exact hAt_hdr _ _ _ _ _ _ _ (by omega) (by omega) (hLk i hi).2.1 (by omega)
  · intro i hi hM
    obtain ⟨_, _, h3, _⟩ := hLk i hi
    refine ⟨?_, empty_size ((hG i hi).2.2.2.2.2.2.1 hM)⟩
    rw [h3 hM, ← pos_by H B (i + 1) _ (idx_ge _ _ _ _).1]
  · intro i hi hM
    exact (hLk i hi).2.2.2 hM
  · intro i hi
    obtain ⟨g1, g2, g3, g4, g5, g6, _⟩ := hG i hi
    exact ⟨g5, g6⟩
  · intro i hi
    have hh := (hG (i + 1) hi).2.2.2.2.2.2.2.2 i rfl
    exact ⟨hh.2.1, hh.2.2⟩
/-- The nodes as a list. -/
def nodesL (n : Nat) (D C T : Nat → Int) (M : Nat → Bool) (B : Nat → ByteArray) : List Nd := (List.range n).map (fun i => ⟨D i, C i, M i, T i, B i⟩)
theorem nd_back {n : Nat} {D C T : Nat → Int} {M : Nat → Bool} {B : Nat → ByteArray} {H : Nat → List UInt8} {L k : Nat → Nat} (hG : ∀ i, i < n → Good D C T M B i) (hH : ∀ i, i < n → H i = hdrL (C i).toNat (M i) (T i).toNat (L i) (k i) ∧ Says (L i) (k i)) (s : ByteArray) (more : List UInt8) (hs : s.data.toList = outB H B 0 n ++ more) (hL : Laid (outB H B 0 n ++ more) n D C T M (fun i => (B i).size) L k (posB H B)) (i : Nat) (hi : i < n) :
    ndOf s (elN D C T M L k (posB H B) i) = ⟨D i, C i, M i, T i, B i⟩ := by
  obtain ⟨g1, g2, g3, g4, g5, g6, g7, _⟩ := hG i hi
  unfold ndOf elN
  dsimp only
  rw [show ((D i).toNat : Int) = D i from by omega, show ((C i).toNat : Int) = C i from by omega, show ((T i).toNat : Int) = T i from by omega]
  congr 1
  cases hM : M i with
  | true =>
    rw [if_pos rfl]
    have := empty_size (g7 hM)
    apply ByteArray.ext
    apply Array.ext
    · rw [show (B i).data.size = (B i).size from rfl, this]; rfl
    · intro j h1 h2
      exact absurd h1 (by simp)
  | false =>
    rw [if_neg (by decide)]
    have hb : L i = (B i).size := hL.blen i hi hM
    have e1 := out_drop H B n i hi more
    have e2 : (S (s.extract (posB H B i + (2 + k i)) (posB H B i + (2 + k i) + L i)).data.toList) = S (B i).data.toList := by
      congr 1
      rw [extr_b, hs, List.drop_take, show posB H B i + (2 + k i) + L i - (posB H B i + (2 + k i)) = (B i).size from by omega, ← List.drop_drop, e1, (hH i hi).1]
      rw [show 2 + k i = (hdrL (C i).toNat (M i) (T i).toNat (L i) (k i)).length from (hdrL_len _ _ _ _ _).symm, List.drop_left, ← size_l, List.take_left]
    rw [S_of, S_of] at e2
    exact e2
/-- Tree of what spelt lays. -/
theorem tree_back {n : Nat} {D C T : Nat → Int} {M : Nat → Bool} {B : Nat → ByteArray} {σ : List Nat} {H : Nat → List UInt8} (hX : SpX n 0 D C T M B σ H) (hG : ∀ i, i < n → Good D C T M B i) (hn : 0 < n) (s : ByteArray) (more : List UInt8) (hs : s.data.toList = outB H B 0 n ++ more) :
    (more = [] → ∃ xs, treeR s = .ok xs ∧ xs.map (ndOf s) = nodesL n D C T M B) ∧ (more ≠ [] → treeR s = .error (27, (outB H B 0 n).length)) := by
  obtain ⟨L, k, hH, hLaid⟩ := laid_of hX hG
  have hL := hLaid more
  have hsz : s.size = (outB H B 0 n).length + more.length := by rw [← size_l, hs, List.length_append]
  have ht := Laid.tree (s := s) (by rw [hs]; exact hL) hn rfl ((hG 0 hn).2.2.2.2.2.2.2.1 rfl) (fun i h1 h2 => by
    obtain ⟨j, rfl⟩ : ∃ j, i = j + 1 := ⟨i - 1, by omega⟩
    exact ((hG (j + 1) h2).2.2.2.2.2.2.2.2 j rfl).1) (by show (outB H B 0 n).length ≤ _; omega)
  refine ⟨fun hm => ?_, fun hm => ?_⟩
  · subst hm
    rw [if_neg (by show ¬ (outB H B 0 n).length < _; simp at hsz; omega)] at ht
    refine ⟨_, ht, ?_⟩
    rw [List.map_map]
    unfold nodesL
    apply List.map_congr_left
    intro i hi
    rw [List.mem_range] at hi
    exact nd_back hG hH s [] hs hL i hi
  · have : 0 < more.length := by
      rcases Nat.eq_zero_or_pos more.length with q | q
      · exact absurd (List.eq_nil_of_length_eq_zero q) hm
      · exact q
    rw [if_pos (by show (outB H B 0 n).length < _; omega)] at ht
    exact ht
/-- Tree of a front of it. -/
theorem tree_cut {n : Nat} {D C T : Nat → Int} {M : Nat → Bool} {B : Nat → ByteArray} {σ : List Nat} {H : Nat → List UInt8} (hX : SpX n 0 D C T M B σ H) (hG : ∀ i, i < n → Good D C T M B i) (hn : 0 < n) (s : ByteArray) (cut : Nat) (hc : cut < (outB H B 0 n).length) (hs : s.data.toList = (outB H B 0 n).take cut) : treeR s = .error (20, cut) := by
  obtain ⟨L, k, hH, hLaid⟩ := laid_of hX hG
  have hL := hLaid []
  obtain ⟨g1, g2, g3, g4, _, _, _, g8, _⟩ := hG 0 hn
  have hsz : s.size = cut := by rw [← size_l, hs, List.length_take]; omega
  obtain ⟨e, he, e1, e2, e3, e4, e5, e6⟩ := hL.sub 0 hn
  have hen : e = n := by
    rcases Nat.lt_or_ge e n with q | q
    · have h1 := e5 q
      obtain ⟨j, rfl⟩ : ∃ j, e = j + 1 := ⟨e - 1, by omega⟩
      have h2 := ((hG (j + 1) q).2.2.2.2.2.2.2.2 j rfl).1
      have h3 := g8 rfl
      omega
    · omega
  rw [hen] at e3
  have e3' : 2 + k 0 + L 0 = (outB H B 0 n).length := by
    have e0 : posB H B 0 = 0 := rfl
    have e9 : posB H B n = (outB H B 0 n).length := rfl
    omega
  obtain ⟨rest, hr⟩ : ∃ rest, outB H B 0 n = hdrL (C 0).toNat (M 0) (T 0).toNat (L 0) (k 0) ++ rest := by
    have := out_drop H B n 0 hn []
    rw [List.append_nil, show posB H B 0 = 0 from rfl, List.drop_zero, (hH 0 hn).1] at this
    exact ⟨_, this⟩
  have hw : wAt s.data.toList 0 s.size = .error none := by
    unfold wAt
    rw [hs, hsz, hr]
    by_cases hq : cut < 2 + k 0
    · rw [hAt_cut _ _ _ _ _ _ _ (by omega) (by omega) (hH 0 hn).2 hq]
    · rw [hAt_front _ _ _ _ _ _ _ (by omega) (by omega) (hH 0 hn).2 (by omega)]
      dsimp only
      rw [if_pos (by omega)]
  unfold treeR tr
  rw [BerMath.one_miss _ _ _ _ _ _ (by decide) hw]
  dsimp only
  rw [hsz]
end Go.Proofs.YtkiidlnimjjnlaaDoor
