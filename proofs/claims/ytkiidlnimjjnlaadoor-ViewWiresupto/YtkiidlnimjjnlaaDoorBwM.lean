import Derived.Test.YtkiidlnimjjnlaaDoorBtTr
import Derived.Test.YtkiidlnimjjnlaaDoorBhHdM
namespace Go.Proofs.YtkiidlnimjjnlaaDoor
open BerMath (Hd HR num hAt wAt El TR elEnd endE one andThen kids)
set_option linter.unusedVariables false

/-- Where the nodes from K on, m of them, first stand higher than x. -/
def idx (D : Nat → Int) (x : Int) : Nat → Nat → Nat
  | 0, K => K
  | m + 1, K => if D K < x then K else idx D x m (K + 1)
theorem idx_ge (D : Nat → Int) (x : Int) : ∀ m K, K ≤ idx D x m K ∧ idx D x m K ≤ K + m
  | 0, K => ⟨Nat.le_refl _, Nat.le_refl _⟩
  | m + 1, K => by
    have := idx_ge D x m (K + 1)
    unfold idx
    split <;> omega
theorem idx_all (D : Nat → Int) (x : Int) : ∀ m K j, K ≤ j → j < idx D x m K → x ≤ D j
  | 0, K, j, h1, h2 => by unfold idx at h2; omega
  | m + 1, K, j, h1, h2 => by
    unfold idx at h2
    split at h2
    · omega
    · by_cases e : j = K
      · subst e; omega
      · exact idx_all D x m (K + 1) j (by omega) h2
theorem idx_at (D : Nat → Int) (x : Int) : ∀ m K, idx D x m K < K + m → D (idx D x m K) < x
  | 0, K, h => by unfold idx at h; omega
  | m + 1, K, h => by
    unfold idx at h ⊢
    split at h
    · rename_i q; rw [if_pos q]; exact q
    · rename_i q; rw [if_neg q]; exact idx_at D x m (K + 1) (by omega)
theorem idx_here (D : Nat → Int) (x : Int) (m K : Nat) (h : m = 0 ∨ D K < x) : idx D x m K = K := by
  cases m with
  | zero => rfl
  | succ m => rcases h with h | h; · omega
              · unfold idx; rw [if_pos h]
theorem idx_next (D : Nat → Int) (x : Int) (m K : Nat) (h : ¬ D K < x) : idx D x (m + 1) K = idx D x m (K + 1) := by
  show (if D K < x then K else _) = _; rw [if_neg h]
theorem idx_end (D : Nat → Int) (x : Int) : ∀ m K, (∀ j, K ≤ j → j < K + m → x ≤ D j) → idx D x m K = K + m
  | 0, K, _ => rfl
  | m + 1, K, h => by
    rw [idx_next D x m K (by have := h K (Nat.le_refl _) (by omega); omega), idx_end D x m (K + 1) (fun j h1 h2 => h j (by omega) (by omega))]
    omega

/-- A list of nodes laid as bytes: where each begins, what its header says. -/
structure Laid (b : List UInt8) (n : Nat) (D C T : Nat → Int) (M : Nat → Bool) (Z L k P : Nat → Nat) : Prop where
  pos : ∀ i, i < n → P (i + 1) = P i + (2 + k i) + Z i
  hdr : ∀ i, i < n → ∀ e, P i + (2 + k i) ≤ e → hAt b (P i) e = .ok ⟨(C i).toNat, M i, (T i).toNat, L i, 2 + k i⟩
  mlen : ∀ i, i < n → M i = true → P (i + 1) + L i = P (idx D (D i + 1) (n - (i + 1)) (i + 1)) ∧ Z i = 0
  blen : ∀ i, i < n → M i = false → L i = Z i
  deep : ∀ i, i < n → 1 ≤ D i ∧ D i ≤ 64
  next : ∀ i, i + 1 < n → D (i + 1) ≤ D i + 1 ∧ (D i < D (i + 1) → M i = true)
theorem Laid.mono {b : List UInt8} {n : Nat} {D C T : Nat → Int} {M : Nat → Bool} {Z L k P : Nat → Nat} (h : Laid b n D C T M Z L k P) : ∀ j i, i ≤ j → j ≤ n → P i ≤ P j
  | 0, i, h1, _ => by rw [Nat.le_zero.1 h1]; exact Nat.le_refl _
  | j + 1, i, h1, h2 => by
    by_cases e : i = j + 1
    · rw [e]; exact Nat.le_refl _
    · have := h.mono j i (by omega) (by omega)
      have := h.pos j (by omega)
      omega
/-- The element that a node is met as. -/
def elN (D C T : Nat → Int) (M : Nat → Bool) (L k P : Nat → Nat) (i : Nat) : El := (P i, ⟨(C i).toNat, M i, (T i).toNat, L i, 2 + k i⟩, (D i).toNat)
/-- The end of a node's subtree, and of its bytes. -/
theorem Laid.sub {b : List UInt8} {n : Nat} {D C T : Nat → Int} {M : Nat → Bool} {Z L k P : Nat → Nat} (h : Laid b n D C T M Z L k P) (i : Nat) (hi : i < n) :
    ∃ e, e = idx D (D i + 1) (n - (i + 1)) (i + 1) ∧ i + 1 ≤ e ∧ e ≤ n ∧ P i + (2 + k i) + L i = P e ∧ (∀ t, i + 1 ≤ t → t < e → D i + 1 ≤ D t) ∧ (e < n → D e < D i + 1) ∧ (M i = false → e = i + 1) := by
  refine ⟨_, rfl, ?_, ?_, ?_, ?_, ?_, ?_⟩
  · exact (idx_ge _ _ _ _).1
  · have := (idx_ge D (D i + 1) (n - (i + 1)) (i + 1)).2; omega
  · cases hM : M i with
    | true =>
      obtain ⟨h1, h2⟩ := h.mlen i hi hM
      have := h.pos i hi
      omega
    | false =>
      have h1 := h.blen i hi hM
      have h2 := h.pos i hi
      have h3 : idx D (D i + 1) (n - (i + 1)) (i + 1) = i + 1 := idx_here _ _ _ _ (by
        by_cases e : i + 1 = n
        · exact Or.inl (by omega)
        · have := h.next i (by omega)
          refine Or.inr ?_
          by_cases q : D i < D (i + 1)
          · rw [this.2 q] at hM; cases hM
          · omega)
      rw [h3]
      omega
  · exact fun t h1 h2 => idx_all _ _ _ _ t h1 h2
  · exact fun hlt => idx_at _ _ _ _ (by omega)
  · intro hM
    exact idx_here _ _ _ _ (by
      by_cases e : i + 1 = n
      · exact Or.inl (by omega)
      · have := h.next i (by omega)
        refine Or.inr ?_
        by_cases q : D i < D (i + 1)
        · rw [this.2 q] at hM; cases hM
        · omega)
theorem range_cons (i m : Nat) : List.range' i (m + 1) = i :: List.range' (i + 1) m := List.range'_succ
theorem range_split (i a c : Nat) : List.range' i (a + c) = List.range' i a ++ List.range' (i + a) c := by
  have := List.range'_append (s := i) (m := a) (n := c) (step := 1)
  rw [Nat.one_mul] at this
  exact this.symm
theorem Laid.whole {b : List UInt8} {n : Nat} {D C T : Nat → Int} {M : Nat → Bool} {Z L k P : Nat → Nat} (h : Laid b n D C T M Z L k P) (i : Nat) (hi : i < n) (e : Nat) (he : P i + (2 + k i) + L i ≤ e) : wAt b (P i) e = .ok ⟨(C i).toNat, M i, (T i).toNat, L i, 2 + k i⟩ := by
  unfold wAt
  rw [h.hdr i hi e (by omega)]
  dsimp only
  rw [if_neg (by omega)]
/-- Nodes that stand side by side are read as they are. -/
theorem Laid.seg {b : List UInt8} {n : Nat} {D C T : Nat → Int} {M : Nat → Bool} {Z L k P : Nat → Nat} (h : Laid b n D C T M Z L k P) :
    ∀ (m i j d f : Nat), j - i ≤ m → i ≤ j → j ≤ n → (∀ t, i ≤ t → t < j → (d : Int) ≤ D t) → (i < j → D i = (d : Int)) → (j = n ∨ D j ≤ (d : Int)) → P j ≤ P i + f →
      kids b f (P j) (P i) d = ((List.range' i (j - i)).map (elN D C T M L k P), none) := by
  intro m
  induction m with
  | zero =>
    intro i j d f hm hij hjn _ _ _ _
    obtain rfl : i = j := by omega
    rw [BerMath.kids_end _ _ _ _ _ (Nat.le_refl _), Nat.sub_self]
    rfl
  | succ m ih =>
    intro i j d f hm hij hjn hD hd hj hf
    by_cases hlt : i < j
    · have hDi := hd hlt
      obtain ⟨e, he, e1, e2, e3, e4, e5, e6⟩ := h.sub i (by omega)
      have hej : e ≤ j := by
        rcases Nat.lt_or_ge j e with q | q
        · exfalso
          have := e4 j (by omega) q
          rcases hj with hj | hj <;> omega
        · exact q
      have hPe := h.mono j e hej hjn
      have hpos := h.pos i (by omega)
      have hP : ¬ P j ≤ P i := by omega
      obtain ⟨f', rfl⟩ : ∃ f', f = f' + 1 := ⟨f - 1, by omega⟩
      rw [BerMath.kids_succ _ _ _ _ _ hP]
      have hw := h.whole i (by omega) (P j) (by omega)
      have hdd := h.deep i (by omega)
      have hdn : ¬ 64 < d := by omega
      have hel : elN D C T M L k P i = (P i, ⟨(C i).toNat, M i, (T i).toNat, L i, 2 + k i⟩, d) := by
        unfold elN
        rw [hDi]
        rfl
      have hone : one b (kids b f') 26 (P j) (P i) d = ((List.range' i (e - i)).map (elN D C T M L k P), none) := by
        cases hM : M i with
        | true =>
          obtain ⟨_, hz⟩ := h.mlen i (by omega) hM
          have hp1 : P i + (2 + k i) = P (i + 1) := by omega
          have hin := ih (i + 1) e (d + 1) f' (by omega) e1 e2 (fun t h1 h2 => by have := e4 t h1 h2; omega) (fun q => by
            have h1 := e4 (i + 1) (Nat.le_refl _) q
            have h2 := (h.next i (by omega)).1
            omega) (by
            by_cases q : e = n
            · exact Or.inl q
            · have := e5 (by omega); exact Or.inr (by omega)) (by omega)
          rw [BerMath.one_made _ _ _ _ _ _ _ hdn hw hM]
          dsimp only
          rw [e3, hp1, hin, show e - i = (e - (i + 1)) + 1 from by omega, range_cons, List.map_cons, hel]
        | false =>
          rw [BerMath.one_leaf _ _ _ _ _ _ _ hdn hw (by dsimp only; rw [hM]; decide), e6 hM, show i + 1 - i = 0 + 1 from by omega, range_cons, List.map_cons, hel]
          rfl
      rw [hone, andThen_none rfl]
      dsimp only
      have hend : endE ((List.range' i (e - i)).map (elN D C T M L k P)) = P e := by
        rw [show e - i = (e - (i + 1)) + 1 from by omega, range_cons, List.map_cons]
        exact e3
      have hrest := ih e j d f' (by omega) hej hjn (fun t h1 h2 => hD t (by omega) h2) (fun q => by
        have h1 := hD e (by omega) q
        have h2 := e5 (by omega)
        omega) hj (by omega)
      rw [hend, hrest]
      dsimp only
      rw [← List.map_append, show j - i = (e - i) + (j - e) from by omega, range_split, show i + (e - i) = e from by omega]
    · obtain rfl : i = j := by omega
      rw [BerMath.kids_end _ _ _ _ _ (Nat.le_refl _), Nat.sub_self]
      rfl
/-- A whole tree is read as it is. -/
theorem Laid.tree {s : ByteArray} {n : Nat} {D C T : Nat → Int} {M : Nat → Bool} {Z L k P : Nat → Nat} (h : Laid s.data.toList n D C T M Z L k P) (hn : 0 < n) (h0 : P 0 = 0) (hD0 : D 0 = 1) (hD : ∀ i, 0 < i → i < n → 2 ≤ D i) (hs : P n ≤ s.size) :
    treeR s = if P n < s.size then .error (27, P n) else .ok ((List.range n).map (elN D C T M L k P)) := by
  obtain ⟨e, he, e1, e2, e3, e4, e5, e6⟩ := h.sub 0 hn
  have hen : e = n := by
    rcases Nat.lt_or_ge e n with q | q
    · have h1 := e5 q
      have h2 := hD e (by omega) q
      omega
    · omega
  rw [hen] at e3
  have hw := h.whole 0 hn s.size (by omega)
  rw [h0] at hw
  have hel : elN D C T M L k P 0 = (0, ⟨(C 0).toNat, M 0, (T 0).toNat, L 0, 2 + k 0⟩, 1) := by
    unfold elN
    rw [h0, hD0]
    rfl
  have htr : tr s = ((List.range' 0 n).map (elN D C T M L k P), none) := by
    unfold tr
    obtain ⟨n', rfl⟩ : ∃ n', n = n' + 1 := ⟨n - 1, by omega⟩
    cases hM : M 0 with
    | true =>
      obtain ⟨_, hz⟩ := h.mlen 0 hn hM
      have hp : P 1 = P 0 + (2 + k 0) + Z 0 := h.pos 0 hn
      have hin := h.seg n' 1 (n' + 1) 2 s.size (by omega) (by omega) (Nat.le_refl _) (fun t h1 h2 => hD t (by omega) h2) (fun q => by
        have h1 := hD 1 (by omega) q
        have h2 : D 1 ≤ D 0 + 1 := (h.next 0 (by omega)).1
        rw [hD0] at h2
        show D 1 = 2
        omega) (Or.inl rfl) (by omega)
      rw [BerMath.one_made _ _ _ _ _ _ _ (by decide) hw hM]
      dsimp only
      rw [h0] at e3
      rw [e3, show 0 + (2 + k 0) = P 1 from by omega, hin, range_cons, List.map_cons, hel]
      rfl
    | false =>
      have hq := e6 hM
      rw [hen] at hq
      obtain rfl : n' = 0 := by omega
      rw [BerMath.one_leaf _ _ _ _ _ _ _ (by decide) hw (by dsimp only; rw [hM]; decide), range_cons, List.map_cons, hel]
      rfl
  have hlast : lastE (tr s).1 = P n := by
    rw [htr]
    obtain ⟨n', rfl⟩ : ∃ n', n = n' + 1 := ⟨n - 1, by omega⟩
    dsimp only
    rw [range_split 0 n' 1, List.map_append]
    show lastE (_ ++ [elN D C T M L k P (0 + n')]) = _
    rw [lastE_snoc, Nat.zero_add]
    obtain ⟨x, hx, x1, x2, x3, x4, x5, x6⟩ := h.sub n' (by omega)
    obtain rfl : x = n' + 1 := by omega
    exact x3
  unfold treeR
  rw [hlast]
  rw [htr]
  dsimp only
  rw [List.range_eq_range']
end Go.Proofs.YtkiidlnimjjnlaaDoor
