import Derived.Test.YtkiidlnimjjnlaaDoorBhSpB
import Derived.Test.YtkiidlnimjjnlaaDoorBhSpW
import Derived.Test.YtkiidlnimjjnlaaDoorBwX
import Derived.Test.YtkiidlnimjjnlaaDoorBfX
import Derived.Deep.AppendLies
namespace Go.Proofs.YtkiidlnimjjnlaaDoor
open Go.RowKit
set_option linter.unusedVariables false
/-- Whether all headers from K on are in their shortest form. -/
def ShI (n K : Nat) (sh : Bool) (H : Nat → List UInt8) : Prop :=
  (sh = true → ∀ j, K ≤ j → j < n → ∃ (c : Nat) (m : Bool) (t len : Nat), H j = hdrL c m t len (ll len) ∧ Says len (ll len)) ∧
  (sh = false → ∃ j, K ≤ j ∧ j < n ∧ ∃ (c : Nat) (m : Bool) (t len k : Nat), H j = hdrL c m t len k ∧ Says len k ∧ ll len < k)
theorem shI_start (n : Nat) : ShI n n true (fun _ => []) := ⟨fun _ j h1 h2 => by omega, fun h => by cases h⟩
theorem shI_step {n i : Nat} {sh : Bool} {H : Nat → List UInt8} (h : ShI n (i + 1) sh H) (hi : i < n) {c : Nat} {m : Bool} {t L : Nat} (hs : Says L (ll L)) : ShI n i sh (updH H i (hdrL c m t L (ll L))) := by
  refine ⟨fun hsh j h1 h2 => ?_, fun hsh => ?_⟩
  · unfold updH
    by_cases e : j = i
    · rw [if_pos e]; exact ⟨c, m, t, L, rfl, hs⟩
    · rw [if_neg e]; exact h.1 hsh j (by omega) h2
  · obtain ⟨j, h1, h2, q⟩ := h.2 hsh
    refine ⟨j, by omega, h2, ?_⟩
    unfold updH
    rw [if_neg (by omega)]
    exact q
theorem shI_long {n i : Nat} {H : Nat → List UInt8} (hi : i < n) {c : Nat} {m : Bool} {t L k : Nat} (hs : Says L k) (hk : ll L < k) : ShI n i false (updH H i (hdrL c m t L k)) :=
  ⟨fun h => (by cases h), fun _ => ⟨i, Nat.le_refl _, hi, c, m, t, L, k, if_pos rfl, hs, hk⟩⟩
/-- What spelt answers. -/
def SplR2 (e : Ending) (n : Nat) (D C T : Nat → Int) (M : Nat → Bool) (B : Nat → ByteArray) : Prop := ∃ (H : Nat → List UInt8) (σ : List Nat) (sh : Bool), e = .returned (.tuple #[.string (S (outB H B 0 n)), .bool sh]) ∧ SpI n 0 D C T M B σ H ∧ ShI n 0 sh H
end Go.Proofs.YtkiidlnimjjnlaaDoor

namespace Go.Proofs.YtkiidlnimjjnlaaDoor
open Go.RowKit
open BerMath (num)
set_option linter.unusedVariables false

theorem ll_mono {a b : Nat} (h : a ≤ b) : ll a ≤ ll b := by
  rcases ll_cases a with ⟨a1, e⟩ | ⟨a1, a2, e⟩ | ⟨a1, a2, a3, e⟩ | ⟨a1, a2, a3, a4, e⟩ | ⟨a1, a2, a3, a4, e⟩ <;>
  rcases ll_cases b with ⟨b1, f⟩ | ⟨b1, b2, f⟩ | ⟨b1, b2, b3, f⟩ | ⟨b1, b2, b3, b4, f⟩ | ⟨b1, b2, b3, b4, f⟩ <;> omega
theorem says_ll {len k : Nat} (h : Says len k) : ll len ≤ k := by
  rcases h with ⟨rfl, h⟩ | ⟨h1, h4, hl⟩
  · rcases ll_cases len with ⟨a1, e⟩ | ⟨a1, a2, e⟩ | ⟨a1, a2, a3, e⟩ | ⟨a1, a2, a3, a4, e⟩ | ⟨a1, a2, a3, a4, e⟩ <;> omega
  · rcases (by omega : k = 1 ∨ k = 2 ∨ k = 3 ∨ k = 4) with rfl | rfl | rfl | rfl <;> simp only [Nat.reducePow] at hl <;>
    rcases ll_cases len with ⟨a1, e⟩ | ⟨a1, a2, e⟩ | ⟨a1, a2, a3, e⟩ | ⟨a1, a2, a3, a4, e⟩ | ⟨a1, a2, a3, a4, e⟩ <;> omega
/-- A header says one length in one form. -/
theorem hdr_inj {c c' : Nat} {m m' : Bool} {t t' len len' k k' : Nat} (h : hdrL c m t len k = hdrL c' m' t' len' k') (s : Says len k) (s' : Says len' k') : len = len' ∧ k = k' := by
  have hk : k = k' := by
    have := congrArg List.length h
    rw [hdrL_len, hdrL_len] at this
    omega
  subst hk
  refine ⟨?_, rfl⟩
  unfold hdrL at h
  injection h with _ h
  rcases s with ⟨rfl, l1⟩ | ⟨h1, h4, l1⟩
  · rcases s' with ⟨_, l2⟩ | ⟨h1, _, _⟩
    · rw [if_pos rfl, if_pos rfl] at h
      injection h with h _
      have := congrArg UInt8.toNat h
      rw [UInt8.toNat_ofNat', UInt8.toNat_ofNat'] at this
      omega
    · omega
  · rcases s' with ⟨h0, l2⟩ | ⟨_, _, l2⟩
    · omega
    · rw [if_neg (by omega), if_neg (by omega)] at h
      injection h with _ h
      rw [← num_beN k len l1, ← num_beN k len' l2, h]
theorem byB_mono {H H' : Nat → List UInt8} (B : Nat → ByteArray) : ∀ (m a : Nat), (∀ j, a ≤ j → j < a + m → (H' j).length ≤ (H j).length) → (outB H' B a m).length ≤ (outB H B a m).length
  | 0, a, h => Nat.le_refl _
  | m + 1, a, h => by
    have ih := byB_mono B m (a + 1) (fun j h1 h2 => h j (by omega) (by omega))
    have h0 := h a (Nat.le_refl _) (by omega)
    rw [outB_cons, outB_cons]
    simp only [List.length_append]
    omega
theorem byB_less {H H' : Nat → List UInt8} (B : Nat → ByteArray) : ∀ (m a : Nat), (∀ j, a ≤ j → j < a + m → (H' j).length ≤ (H j).length) → (∃ j, a ≤ j ∧ j < a + m ∧ (H' j).length < (H j).length) → (outB H' B a m).length < (outB H B a m).length
  | 0, a, h, ⟨j, h1, h2, _⟩ => by omega
  | m + 1, a, h, ⟨j, h1, h2, h3⟩ => by
    have h0 := h a (Nat.le_refl _) (by omega)
    rw [outB_cons, outB_cons]
    simp only [List.length_append]
    by_cases e : j = a
    · subst e
      have ih := byB_mono (H := H) (H' := H') B m (j + 1) (fun j h1 h2 => h j (by omega) (by omega))
      omega
    · have ih := byB_less (H := H) (H' := H') B m (a + 1) (fun j h1 h2 => h j (by omega) (by omega)) ⟨j, by omega, by omega, h3⟩
      omega
theorem outB_same {H H' : Nat → List UInt8} (B : Nat → ByteArray) : ∀ (m a : Nat), (∀ j, a ≤ j → j < a + m → H' j = H j) → outB H' B a m = outB H B a m
  | 0, a, h => rfl
  | m + 1, a, h => by rw [outB_cons, outB_cons, h a (Nat.le_refl _) (by omega), outB_same B m (a + 1) (fun j h1 h2 => h j (by omega) (by omega))]
/-- Two spellings of one tree, the second in the shortest form: no header of it is longer. -/
theorem forms_le {n : Nat} {D C T : Nat → Int} {M : Nat → Bool} {B : Nat → ByteArray} {σ σ' : List Nat} {H H' : Nat → List UInt8} (hX : SpX n 0 D C T M B σ H) (hX' : SpX n 0 D C T M B σ' H') (hS : ∀ j, j < n → ∃ len, H' j = hdrL (C j).toNat (M j) (T j).toNat len (ll len) ∧ len ≤ 67108864) (hB' : ∀ j, j < n → ∃ len k, H' j = hdrL (C j).toNat (M j) (T j).toNat len k ∧ Says len k ∧ k = ll len) :
    ∀ (d j : Nat), n - j ≤ d → j < n → ∃ l1 l2 k2 : Nat, H' j = hdrL (C j).toNat (M j) (T j).toNat l1 (ll l1) ∧ H j = hdrL (C j).toNat (M j) (T j).toNat l2 k2 ∧ Says l1 (ll l1) ∧ Says l2 k2 ∧ l1 ≤ l2 ∧ (M j = true → l1 = byB H' B (j + 1) (idx D (D j + 1) (n - (j + 1)) (j + 1)) ∧ l2 = byB H B (j + 1) (idx D (D j + 1) (n - (j + 1)) (j + 1))) ∧ (M j = false → l1 = l2)
  | 0, j, h1, h2 => by omega
  | d + 1, j, h1, h2 => by
    obtain ⟨l2, k2, q1, q2, q3, q4⟩ := hX.2 j (Nat.zero_le _) h2
    obtain ⟨l1, k1, p1, p2, p3, p4⟩ := hX'.2 j (Nat.zero_le _) h2
    obtain ⟨l1', k1', r1, r2, r3⟩ := hB' j h2
    obtain ⟨e1, e2⟩ := hdr_inj (p1.symm.trans r1) p2 r2
    subst e1 e2 r3
    refine ⟨l1, l2, k2, p1, q1, p2, q2, ?_, fun hM => ⟨p3 hM, q3 hM⟩, fun hM => (p4 hM).trans (q4 hM).symm⟩
    cases hM : M j with
    | false => rw [p4 hM, q4 hM]; exact Nat.le_refl _
    | true =>
      rw [p3 hM, q3 hM]
      have hi := idx_ge D (D j + 1) (n - (j + 1)) (j + 1)
      refine byB_mono B _ _ (fun i i1 i2 => ?_)
      obtain ⟨a1, a2, b2, s1, s2, s3, s4, s5, _⟩ := forms_le hX hX' hS hB' d i (by omega) (by omega)
      rw [s1, s2, hdrL_len, hdrL_len]
      have t1 := ll_mono s5
      have t2 := says_ll s4
      omega
theorem forms_all {n : Nat} {D C T : Nat → Int} {M : Nat → Bool} {B : Nat → ByteArray} {σ σ' : List Nat} {H H' : Nat → List UInt8} {sh : Bool} (hb : bsum B n ≤ 67108864) (hI : SpI n 0 D C T M B σ H) (hI' : SpI n 0 D C T M B σ' H') (hS : ∀ j, j < n → ∃ len, H' j = hdrL (C j).toNat (M j) (T j).toNat len (ll len) ∧ len ≤ 67108864) (hsh : ShI n 0 sh H) :
    (outB H' B 0 n).length ≤ (outB H B 0 n).length ∧ (sh = true → outB H' B 0 n = outB H B 0 n) ∧ (sh = false → outB H' B 0 n ≠ outB H B 0 n) := by
  have hX := hI.2.2.2.2.2.2
  have hX' := hI'.2.2.2.2.2.2
  have hB' : ∀ j, j < n → ∃ len k, H' j = hdrL (C j).toNat (M j) (T j).toNat len k ∧ Says len k ∧ k = ll len := fun j hj => by
    obtain ⟨len, e, hle⟩ := hS j hj
    obtain ⟨l1, k1, p1, p2, p3, p4⟩ := hX'.2 j (Nat.zero_le _) hj
    have hk : k1 = ll len := by
      have := congrArg List.length (p1.symm.trans e)
      rw [hdrL_len, hdrL_len] at this
      omega
    refine ⟨l1, k1, p1, p2, ?_⟩
    have s' : Says len (ll len) := says_wide len (by omega)
    obtain ⟨e1, e2⟩ := hdr_inj (p1.symm.trans e) p2 s'
    rw [e1]
    exact hk
  have hF := fun j hj => forms_le hX hX' hS hB' (n - j) j (Nat.le_refl _) hj
  have hle : ∀ j, 0 ≤ j → j < 0 + n → (H' j).length ≤ (H j).length := fun j _ h2 => by
    obtain ⟨a1, a2, b2, s1, s2, s3, s4, s5, _⟩ := hF j (by omega)
    rw [s1, s2, hdrL_len, hdrL_len]
    have t1 := ll_mono s5
    have t2 := says_ll s4
    omega
  refine ⟨byB_mono B n 0 hle, fun e => ?_, fun e => ?_⟩
  · have hall : ∀ (d j : Nat), n - j ≤ d → j < n → H' j = H j := by
      intro d
      induction d with
      | zero => intro j h1 h2; omega
      | succ d ih =>
        intro j h1 h2
        obtain ⟨a1, a2, b2, s1, s2, s3, s4, s5, s6, s7⟩ := hF j h2
        obtain ⟨c, m, t, len, u1, u2⟩ := hsh.1 e j (Nat.zero_le _) h2
        obtain ⟨v1, v2⟩ := hdr_inj (s2.symm.trans u1) s4 u2
        subst v1 v2
        have el : a1 = a2 := by
          cases hM : M j with
          | false => exact s7 hM
          | true =>
            rw [(s6 hM).1, (s6 hM).2]
            have hi := idx_ge D (D j + 1) (n - (j + 1)) (j + 1)
            unfold byB
            rw [outB_same (H := H) (H' := H') B _ (j + 1) (fun i i1 i2 => ih i (by omega) (by omega))]
        rw [s1, s2, el]
    exact outB_same B n 0 (fun j _ h2 => hall (n - j) j (Nat.le_refl _) (by omega))
  · obtain ⟨j, h1, h2, c, m, t, len, k, u1, u2, u3⟩ := hsh.2 e
    intro hc
    have := byB_less (H := H) (H' := H') B n 0 hle ⟨j, h1, by omega, by
      obtain ⟨a1, a2, b2, s1, s2, s3, s4, s5, _⟩ := hF j h2
      obtain ⟨v1, v2⟩ := hdr_inj (s2.symm.trans u1) s4 u2
      subst v1 v2
      rw [s1, s2, hdrL_len, hdrL_len]
      have t1 := ll_mono s5
      omega⟩
    rw [hc] at this
    omega
end Go.Proofs.YtkiidlnimjjnlaaDoor

namespace Go.Proofs.YtkiidlnimjjnlaaDoor
open Go.RowKit
open BerMath (lo)
set_option linter.unusedVariables false

/-- A row of bytes appended to a row of the call's own. -/
theorem appendB_row (w : World) (B : Nat) (v : Value) (l : List UInt8) (C : Nat) (v2 : Value) (k : List UInt8) (hown : Own w B v l) (h2 : Own w C v2 k) (h0 : 0 < k.length) (hB : B ≤ w.heap.size) (hsz : l.length + k.length ≤ 1099511627776) :
    ∃ v' w', (Builtin.append_ #[68, 68] 68 #[v, v2]).run Tryd.prog w = .ok v' w' ∧ Own w' B v' (l ++ k) ∧ Below B w w' := by
  obtain ⟨i0, hi, hz0, hz1, hz2⟩ := info_parts info_u8
  rcases h2.2 with ⟨rfl, hn⟩ | ⟨g, cap, cur, rfl, hg⟩
  · omega
  · have hnews : ∀ j u, (bv k)[j]? = some u → w.cell? ((⟨g, 0, none⟩ : Addr).add j) = some u := by
      intro j u hj
      have hjn : j < k.length := by
        rcases Nat.lt_or_ge j k.length with h' | h'
        · exact h'
        · rw [List.getElem?_eq_none (by rw [bv_len]; exact h')] at hj; cases hj
      have hc := World.ownsRow.cellAt (show w.ownsRow C 5 1 _ k.length (bv k) from h2) j (by omega)
      have ea : (⟨g, 0, none⟩ : Addr).add j = ⟨g, j, none⟩ := by unfold Addr.add; split <;> simp_all
      rw [ea, hc]
      exact hj
    obtain ⟨g', cap', w', hr, q2, q3, _, _⟩ := run_append_lies (P := Tryd.prog) w 68 68 B 5 i0 _ 1 1 Tryd.underlying68 hi hz0 hz1 hz2 rfl (by decide) v l.length (bv l) hown ⟨g, 0, none⟩ k.length cap (bv k) (by rw [bv_len, Nat.mul_one]) hnews (bv_one _) h0 (by unfold maxLen; omega) (by omega) hB w.heap.size rfl
    refine ⟨_, w', hr, ?_, (Below.refl _ _).grown q3 hB (fun j hj => (World.ownsRow.lt (show w.ownsRow B 5 1 v l.length (bv l) from hown) _ hj).1)⟩
    unfold Own
    rw [bv_app, List.length_append]
    exact q2
theorem own_slice {w : World} {B : Nat} {v : Value} {l : List UInt8} (h : Own w B v l) : ∃ a c, v = .slice a l.length c := by
  rcases h.2 with ⟨rfl, hn⟩ | ⟨g, cap, cur, rfl, hg⟩
  · exact ⟨none, 0, by rw [hn]⟩
  · exact ⟨_, _, rfl⟩
theorem ownB_below {w w' : World} {B : Nat} {v : Value} {l : List UInt8} (h : Own w B v l) (hb : Below w.heap.size w w') : Own w' B v l := by
  rcases h with ⟨h1, ⟨rfl, h2⟩ | ⟨g, cap, cur, rfl, h3, h4, h5⟩⟩
  · exact ⟨h1, Or.inl ⟨rfl, h2⟩⟩
  · exact ⟨h1, Or.inr ⟨g, cap, cur, rfl, h3, by rw [hb.block g (Array.getElem?_eq_some_iff.1 h4).1]; exact h4, h5⟩⟩
theorem LenB.weak {W : World} {g n K K' : Nat} {Ls : Nat → Nat} (h : LenB W g n K Ls) (hk : K ≤ K') : LenB W g n K' Ls := by
  obtain ⟨cs, h1, h2, h3, h4⟩ := h
  exact ⟨cs, h1, h2, h3, fun j a b => h4 j (Nat.le_trans hk a) b⟩
theorem updL_twice (Ls : Nat → Nat) (i x y : Nat) : updL (updL Ls i x) i y = updL Ls i y := by
  funext j
  unfold updL
  by_cases e : j = i
  · rw [if_pos e, if_pos e]
  · rw [if_neg e, if_neg e, if_neg e]
/-- What the reference has in hand: the sums, the lengths. -/
def MsG (w W : World) (n K : Nat) (σ : List Nat) (Ls : Nat → Nat) : Prop := NumB W w.heap.size σ ∧ LenB W (w.heap.size + 1) n K Ls ∧ Below w.heap.size w W
theorem MsG.of {w W W' : World} {n K : Nat} {σ : List Nat} {Ls : Nat → Nat} (h : MsG w W n K σ Ls) (hb : Below W.heap.size W W') : MsG w W' n K σ Ls :=
  ⟨h.1.of (hb.block _ h.1.lt), h.2.1.of (hb.block _ h.2.1.lt), h.2.2.trans (hb.mono h.2.2.size)⟩
theorem MsG.drew {w W : World} {n K : Nat} {σ : List Nat} {Ls : Nat → Nat} (h : MsG w W n K σ Ls) : MsG w W.drew n K σ Ls := ⟨h.1.of rfl, h.2.1.of rfl, belowN h.2.2 1⟩
theorem MsG.num {w W : World} {n K : Nat} {σ : List Nat} {Ls : Nat → Nat} (h : MsG w W n K σ Ls) (hl : σ.length = 66) (e : Nat) (he : e < 66) (v : Nat) : MsG w (W.setCell ⟨w.heap.size, e, none⟩ (.int .i64 (v : Int))) n K (σ.set e v) Ls :=
  ⟨h.1.set hl e he v, h.2.1.of (Below.heap_setCell _ _ _ _ (by show w.heap.size + 1 ≠ w.heap.size; omega)), h.2.2.setCell (Nat.le_refl _) _⟩
theorem MsG.len {w W : World} {n i : Nat} {σ : List Nat} {Ls : Nat → Nat} (h : MsG w W n (i + 1) σ Ls) (hi : i < n) (x : Nat) : MsG w (W.setCell ⟨w.heap.size + 1, i, none⟩ (.int .i64 (x : Int))) n i σ (updL Ls i x) :=
  ⟨h.1.of (Below.heap_setCell _ _ _ _ (by show w.heap.size ≠ w.heap.size + 1; omega)), h.2.1.set hi x, h.2.2.setCell (Nat.le_succ _) _⟩
theorem MsG.len2 {w W : World} {n i : Nat} {σ : List Nat} {Ls : Nat → Nat} (y : Nat) (h : MsG w W n i σ (updL Ls i y)) (hi : i < n) (x : Nat) : MsG w (W.setCell ⟨w.heap.size + 1, i, none⟩ (.int .i64 (x : Int))) n i σ (updL Ls i x) := by
  have h' : MsG w W n (i + 1) σ (updL Ls i y) := ⟨h.1, h.2.1.weak (Nat.le_succ _), h.2.2⟩
  have := h'.len hi x
  rwa [updL_twice] at this
/-- A block that is none of the two keeps what it holds. -/
theorem box_set {W : World} {g b j : Nat} {t : TypeId} {cs : Array Value} {u : Value} (h : Box W g t cs) (hne : g ≠ b) : Box (W.setCell ⟨b, j, none⟩ u) g t cs := h.of (Below.heap_setCell _ _ _ _ hne)
theorem ck_unique {n : Nat} {D C T : Nat → Int} {M : Nat → Bool} {B : Nat → ByteArray} {c q c' q' : Int} (h : CkR n D C T M B c q) (h' : CkR n D C T M B c' q') : c = c' ∧ q = q' := by
  rcases h with ⟨a1, a2, a3, a4⟩ | ⟨a1, a2, a3⟩ | ⟨i, a1, a2, a3, a4⟩
  · rcases h' with ⟨b1, b2, b3, b4⟩ | ⟨b1, b2, b3⟩ | ⟨j, b1, b2, b3, b4⟩
    · exact ⟨a3.trans b3.symm, a4.trans b4.symm⟩
    · omega
    · rcases b4 with ⟨b5, _⟩ | ⟨_, b5, _⟩
      · exact absurd (a2 j b1).1 b5
      · exact absurd (a2 j b1).2 b5
  · rcases h' with ⟨b1, b2, b3, b4⟩ | ⟨b1, b2, b3⟩ | ⟨j, b1, b2, b3, b4⟩
    · omega
    · exact ⟨a2.trans b2.symm, a3.trans b3.symm⟩
    · omega
  · have nf : ¬ Fit D C T M B i := fun hf => by
      rcases a4 with ⟨a5, _⟩ | ⟨_, a5, _⟩
      · exact a5 hf.1
      · exact a5 hf.2
    rcases h' with ⟨b1, b2, b3, b4⟩ | ⟨b1, b2, b3⟩ | ⟨j, b1, b2, b3, b4⟩
    · exact absurd (b2 i a1) nf
    · omega
    · have nf' : ¬ Fit D C T M B j := fun hf => by
        rcases b4 with ⟨b5, _⟩ | ⟨_, b5, _⟩
        · exact b5 hf.1
        · exact b5 hf.2
      have e : i = j := by
        rcases Nat.lt_trichotomy i j with h | h | h
        · exact absurd (b2 i h) nf
        · exact h
        · exact absurd (a2 j h) nf'
      subst e
      refine ⟨?_, a3.trans b3.symm⟩
      rcases a4 with ⟨a5, a6⟩ | ⟨a5, _, a6⟩ <;> rcases b4 with ⟨b5, b6⟩ | ⟨b5, _, b6⟩
      · exact a6.trans b6.symm
      · exact absurd b5 a5
      · exact absurd a5 b5
      · exact a6.trans b6.symm
theorem wr_unique {e e' : Ending} {n : Nat} {D C T : Nat → Int} {M : Nat → Bool} {B : Nat → ByteArray} (hs : bsum B n ≤ 67108864) (h : WrE e n D C T M B) (h' : WrE e' n D C T M B) : ∃ (x : ByteArray) (c q : Int), e = .returned (.tuple #[.string x, .int .i64 c, .int .i64 q]) ∧ e' = e := by
  have no : ∀ c q : Int, c ≠ 0 → CkR n D C T M B c q → (0 < n ∧ ∀ i, i < n → Good D C T M B i) → False := fun c q h0 hc hg => h0 (ck_unique hc (Or.inl ⟨hg.1, (fit_iff n D C T M B).2 hg.2, rfl, rfl⟩)).1
  rcases h with ⟨hg, H, σ, rfl, hI, hH⟩ | ⟨c, q, h0, hc, rfl⟩
  · rcases h' with ⟨_, H', σ', rfl, hI', hH'⟩ | ⟨c', q', h0', hc', rfl⟩
    · refine ⟨_, _, _, rfl, ?_⟩
      have hsh : ShI n 0 true H := ⟨fun _ j _ hj => by
        obtain ⟨len, e1, e2⟩ := hH j hj
        exact ⟨_, _, _, len, e1, says_wide len (by omega)⟩, fun h => by cases h⟩
      have := (forms_all hs hI hI' hH' hsh).2.1 rfl
      rw [this]
    · exact (no c' q' h0' hc' hg).elim
  · rcases h' with ⟨hg, H', σ', rfl, hI', hH'⟩ | ⟨c', q', h0', hc', rfl⟩
    · exact (no c q h0 hc hg).elim
    · obtain ⟨rfl, rfl⟩ := ck_unique hc hc'
      exact ⟨_, _, _, rfl, rfl⟩
end Go.Proofs.YtkiidlnimjjnlaaDoor
