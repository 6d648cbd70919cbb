import Derived.Test.YthpfnajgbocpnaaPtMath
namespace Go.Proofs.Ythpfnajgbocpnaa
namespace PtHpM
set_option linter.unusedVariables false

/-- A heap from i0 on, of m keys. -/
def Hp (f : Nat → Nat) (m i0 : Nat) : Prop := ∀ j, 1 ≤ j → j < m → i0 ≤ (j - 1) / 2 → f ((j - 1) / 2) ≤ f j
/-- A heap from i0 on, but at p; what is above p is not above what is beneath it. -/
def Gd (f : Nat → Nat) (m i0 p : Nat) : Prop := (∀ j, 1 ≤ j → j < m → i0 ≤ (j - 1) / 2 → (j - 1) / 2 ≠ p → f ((j - 1) / 2) ≤ f j) ∧
  ∀ j, 1 ≤ j → j < m → (j - 1) / 2 = p → 1 ≤ p → i0 ≤ (p - 1) / 2 → f ((p - 1) / 2) ≤ f j
def sw (f : Nat → Nat) (p q : Nat) (j : Nat) : Nat := if j = p then f q else if j = q then f p else f j
theorem Gd.start {f : Nat → Nat} {m i : Nat} (h : Hp f m (i + 1)) : Gd f m i i := by
  refine ⟨fun j h1 h2 h3 h4 => h j h1 h2 (by omega), fun j h1 h2 h3 h4 h5 => by omega⟩
theorem Gd.done {f : Nat → Nat} {m i0 p : Nat} (h : Gd f m i0 p) (hc : ∀ j, 1 ≤ j → j < m → (j - 1) / 2 = p → f p ≤ f j) : Hp f m i0 := by
  intro j h1 h2 h3
  by_cases e : (j - 1) / 2 = p
  · rw [e]; exact hc j h1 h2 e
  · exact h.1 j h1 h2 h3 e
theorem Gd.swap {f : Nat → Nat} {m i0 p q : Nat} (h : Gd f m i0 p) (hp : i0 ≤ p) (hq : q < m) (hq1 : 1 ≤ q) (hpq : (q - 1) / 2 = p) (hlt : f q < f p) (hc : ∀ j, 1 ≤ j → j < m → (j - 1) / 2 = p → f q ≤ f j) : Gd (sw f p q) m i0 q := by
  have hne : p < q := by omega
  constructor
  · intro j h1 h2 h3 h4
    by_cases ej : j = p
    · subst ej
      have e1 : sw f j q j = f q := by simp [sw]
      have e2 : sw f j q ((j - 1) / 2) = f ((j - 1) / 2) := by
        have a : (j - 1) / 2 ≠ j := by omega
        have b : (j - 1) / 2 ≠ q := by omega
        simp [sw, a, b]
      rw [e1, e2]
      exact h.2 q hq1 hq hpq h1 h3
    · by_cases eq : j = q
      · subst eq
        rw [hpq]
        have e1 : sw f p j p = f j := by simp [sw]
        have e2 : sw f p j j = f p := by
          have a : j ≠ p := by omega
          simp [sw, a]
        rw [e1, e2]
        omega
      · have e1 : sw f p q j = f j := by simp [sw, ej, eq]
        rw [e1]
        by_cases ep : (j - 1) / 2 = p
        · rw [ep]
          have e2 : sw f p q p = f q := by simp [sw]
          rw [e2]
          exact hc j h1 h2 ep
        · have e2 : sw f p q ((j - 1) / 2) = f ((j - 1) / 2) := by simp [sw, ep, h4]
          rw [e2]
          exact h.1 j h1 h2 h3 ep
  · intro j h1 h2 h3 h4 h5
    rw [hpq]
    have e1 : sw f p q p = f q := by simp [sw]
    have a : j ≠ p := by omega
    have b : j ≠ q := by omega
    have e2 : sw f p q j = f j := by simp [sw, a, b]
    rw [e1, e2]
    have := h.1 j h1 h2 (by omega) (by omega)
    rw [h3] at this
    exact this
theorem Hp.top {f : Nat → Nat} {m : Nat} (h : Hp f m 0) : ∀ n j, j ≤ n → j < m → f 0 ≤ f j := by
  intro n
  induction n with
  | zero => intro j h1 h2; have : j = 0 := by omega
            subst this; exact Nat.le_refl _
  | succ n ih =>
    intro j h1 h2
    by_cases e : j = 0
    · subst e; exact Nat.le_refl _
    · have a := ih ((j - 1) / 2) (by omega) (by omega)
      have b := h j (by omega) h2 (Nat.zero_le _)
      omega

/-! Lists of heads. -/
/-- A head: where its numbers lie, its room, its numbers. -/
abbrev Hd : Type := Option Addr × Nat × List Nat
def ky (h : Hd) : Nat := h.2.2.headD 0
def kf (H : List Hd) (j : Nat) : Nat := ky (H.getD j (none, 0, []))
def swpH (H : List Hd) (p q : Nat) : List Hd := (H.set p (H.getD q (none, 0, []))).set q (H.getD p (none, 0, []))
theorem swpH_len (H : List Hd) (p q : Nat) : (swpH H p q).length = H.length := by simp [swpH]
theorem swpH_kf {H : List Hd} {p q : Nat} (hp : p < H.length) (hq : q < H.length) (hne : p ≠ q) : kf (swpH H p q) = sw (kf H) p q := by
  funext j
  unfold kf sw swpH
  by_cases h1 : j = p
  · subst h1
    have : ¬ q = j := fun e => hne e.symm
    simp [List.getD, this, hp]
  · by_cases h2 : j = q
    · subst h2
      simp [List.getD, h1, hq]
    · have a : ¬ p = j := fun e => h1 e.symm
      have b : ¬ q = j := fun e => h2 e.symm
      simp [List.getD, a, b, h1, h2]
theorem swpH_perm {H : List Hd} {p q : Nat} (hp : p < H.length) (hq : q < H.length) : (swpH H p q).Perm H := by
  unfold swpH
  have e1 : H.getD q (none, 0, []) = H[q] := by simp [List.getD, hq]
  have e2 : H.getD p (none, 0, []) = H[p] := by simp [List.getD, hp]
  rw [e1, e2]
  exact List.set_set_perm hp hq
theorem kf_at {H : List Hd} {j : Nat} (h : j < H.length) : kf H j = ky H[j] := by simp [kf, List.getD, h]
end PtHpM
end Go.Proofs.Ythpfnajgbocpnaa
