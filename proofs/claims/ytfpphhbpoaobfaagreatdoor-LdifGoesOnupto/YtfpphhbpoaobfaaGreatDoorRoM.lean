import Derived.Test.YtfpphhbpoaobfaaGreatDoorGO
namespace Go.Proofs.YtfpphhbpoaobfaaGreatDoor
namespace Rd
open LdMath
set_option linter.unusedVariables false
set_option maxRecDepth 100000

theorem trim_nil : trimCR [] = [] := rfl
theorem phR_on (m : List UInt8) : ∀ (b : List UInt8) (n : Nat) (acc : List UInt8), (∀ p ∈ phR n acc b, 13 ∉ p.2) → ∃ X, phR n acc (b ++ 10 :: 10 :: m) = phR n acc b ++ (n + (phR n acc b).length, []) :: X
  | [], n, acc, h => by
    have e0 : phR n acc (10 :: 10 :: m) = (n, trimCR acc) :: (n + 1, []) :: phR (n + 1 + 1) [] m := by rw [phR, if_pos rfl, phR, if_pos rfl, trim_nil]
    rw [List.nil_append, e0]
    by_cases ha : acc = []
    · subst ha
      exact ⟨_, rfl⟩
    · have e : phR n acc [] = [(n, acc)] := by rw [phR, if_neg ha]
      have h13 : 13 ∉ acc := h (n, acc) (by rw [e]; simp)
      rw [e, trim_no acc h13]
      exact ⟨_, rfl⟩
  | c :: b, n, acc, h => by
    rw [List.cons_append, phR, phR]
    by_cases hc : c = 10
    · rw [if_pos hc, if_pos hc]
      obtain ⟨X, hX⟩ := phR_on m b (n + 1) [] (fun p hp => h p (by rw [phR, if_pos hc]; exact List.mem_cons_of_mem _ hp))
      refine ⟨X, ?_⟩
      rw [hX, List.length_cons, show n + 1 + (phR (n + 1) [] b).length = n + ((phR (n + 1) [] b).length + 1) from by omega]
      rfl
    · rw [if_neg hc, if_neg hc]
      exact phR_on m b n _ (fun p hp => h p (by rw [phR, if_neg hc]; exact hp))
theorem ferr_13 : ∀ (l : List (Nat × List UInt8)) (a : List UInt8), ferr a l = none → ∀ p ∈ l, 13 ∉ p.2
  | [], _, _, p, hp => by simp at hp
  | x :: l, a, h, p, hp => by
    rw [ferr] at h
    cases hf : flt a x.2 with
    | some e => rw [hf] at h; cases h
    | none =>
      rw [hf] at h
      rcases List.mem_cons.1 hp with rfl | hp
      · have := (flt_ok hf).1
        simpa using this
      · exact ferr_13 l x.2 h p hp
/-- A text with a blank line and more behind it. -/
theorem lines_on (b m : List UInt8) (h1 : ferr [] (phys b) = none) (h2 : ferr [] (phys (b ++ 10 :: 10 :: m)) = none) : ∃ k Y, joinS (phys (b ++ 10 :: 10 :: m)) = joinS (phys b) ++ (k, []) :: Y := by
  obtain ⟨X, hX⟩ := phR_on m b 1 [] (by rw [← phys_eq]; exact ferr_13 _ _ h1)
  rw [← phys_eq, ← phys_eq] at hX
  rw [hX] at h2 ⊢
  obtain ⟨k, hk⟩ : ∃ k, 1 + (phys b).length = k := ⟨_, rfl⟩
  rw [hk] at h2 ⊢
  rw [ferr_app _ _ [] h1, ferr] at h2
  rw [joinS_cut _ _ (k, []) rfl]
  cases hf : flt (lastA [] (phys b)) [] with
  | some e => rw [hf] at h2; cases h2
  | none =>
    rw [hf] at h2
    cases X with
    | nil => exact ⟨k, [], rfl⟩
    | cons x X =>
      have h3 : ferr [] (x :: X) = none := h2
      rw [ferr] at h3
      cases hg : flt [] x.2 with
      | some e => rw [hg] at h3; cases h3
      | none =>
        have h4 := (flt_ok hg).2
        have h5 : goes x.2 = false := by simpa using h4
        refine ⟨k, joinS (x :: X), ?_⟩
        have := joinS_cut [(k, [])] X x h5
        rw [show (k, []) :: x :: X = [(k, [])] ++ x :: X from rfl, this]
        rfl
theorem rdL_on (e e' k : Nat) (Y : List (Nat × List UInt8)) : ∀ (L : List (Nat × List UInt8)) (st : St), ((rdL e st L).2.1 = 0 → ∃ more, (rdL e' st (L ++ (k, []) :: Y)).1 = (rdL e st L).1 ++ more) ∧ ((rdL e st L).2.1 ≠ 0 → (rdL e st L).2.2 ≠ e → (rdL e' st (L ++ (k, []) :: Y)).2 = (rdL e st L).2)
  | [], st => by
    rw [List.nil_append, rdL, rdL, if_neg (by simp), if_neg (by simp)]
    unfold fin
    by_cases h0 : st.1 = 0
    · rw [if_pos h0]
      exact ⟨fun h => by simp at h, fun _ h => absurd rfl h⟩
    · by_cases h1 : st.1 = 1
      · rw [if_neg h0, if_pos h1]
        exact ⟨fun h => by simp at h, fun _ h => absurd rfl h⟩
      · by_cases h3 : st.1 = 3
        · simp only [if_neg h0, if_neg h1, if_pos h3]
          exact ⟨fun h => by simp at h, fun _ _ => trivial⟩
        · by_cases h4 : st.1 = 4
          · simp only [if_neg h0, if_neg h1, if_neg h3, if_pos h4]
            exact ⟨fun _ => ⟨_, rfl⟩, fun h => absurd rfl h⟩
          · simp only [if_neg h0, if_neg h1, if_neg h3, if_neg h4]
            exact ⟨fun _ => ⟨_, rfl⟩, fun h => absurd rfl h⟩
  | (n, t) :: L, st => by
    rw [List.cons_append, rdL, rdL]
    split
    · exact rdL_on e e' k Y L st
    · split
      · split
        · exact rdL_on e e' k Y L _
        · exact ⟨fun h => absurd h (by assumption), fun _ _ => rfl⟩
      · split
        · rename_i h3
          have e0 : fin e' st = fin e st := by
            unfold fin
            have h0 : ¬ st.1 = 0 := by omega
            have h1 : ¬ st.1 = 1 := by omega
            simp only [if_neg h0, if_neg h1, if_pos h3]
          rw [e0]
          exact ⟨fun _ => ⟨[], by simp⟩, fun _ _ => rfl⟩
        · split
          · obtain ⟨i1, i2⟩ := rdL_on e e' k Y L (2, st.2)
            refine ⟨fun h => ?_, i2⟩
            obtain ⟨more, hm⟩ := i1 h
            exact ⟨more, by simp [hm]⟩
          · exact rdL_on e e' k Y L st
theorem rdT_on (b m : List UInt8) (h1 : ferr [] (phys b) = none) (h2 : ferr [] (phys (b ++ 10 :: 10 :: m)) = none) : ((rdT b).2.1 = 0 → ∃ more, (rdT (b ++ 10 :: 10 :: m)).1 = (rdT b).1 ++ more) ∧ ((rdT b).2.1 ≠ 0 → (rdT b).2.2 ≠ (phys b).length + 1 → (rdT (b ++ 10 :: 10 :: m)).2 = (rdT b).2) := by
  obtain ⟨k, Y, hj⟩ := lines_on b m h1 h2
  have r1 : rdT b = rdL ((phys b).length + 1) st0 (joinS (phys b)) := by unfold rdT; rw [h1]
  have r2 : rdT (b ++ 10 :: 10 :: m) = rdL ((phys (b ++ 10 :: 10 :: m)).length + 1) st0 (joinS (phys b) ++ (k, []) :: Y) := by unfold rdT; rw [h2, hj]
  rw [r1, r2]
  exact rdL_on _ _ k Y _ st0
/-- How many line ends there are, the end of a text without one counted. -/
def cE : List UInt8 → Nat
  | [] => 0
  | [_] => 1
  | c :: d :: l => (if c = 10 then 1 else 0) + cE (d :: l)
theorem phR_cE : ∀ (b : List UInt8) (n : Nat) (acc : List UInt8), b ≠ [] → (phR n acc b).length = cE b
  | [], _, _, h => absurd rfl h
  | [c], n, acc, _ => by
    rw [phR]
    split
    · simp [phR, cE]
    · simp [phR, cE]
  | c :: d :: l, n, acc, _ => by
    rw [phR, cE]
    split
    · rw [List.length_cons, phR_cE (d :: l) (n + 1) [] (by simp)]
      omega
    · rw [phR_cE (d :: l) n _ (by simp)]
      omega
theorem phys_cE (b : List UInt8) : (phys b).length = cE b := by
  rw [phys_eq]
  cases b with
  | nil => rfl
  | cons c l => exact phR_cE _ _ _ (by simp)
theorem cE_step (b : List UInt8) (i : Nat) (h : i < b.length) : cE (b.drop i) = (if b[i] = 10 ∨ i + 1 = b.length then 1 else 0) + cE (b.drop (i + 1)) := by
  rw [List.drop_eq_getElem_cons h]
  cases hd : b.drop (i + 1) with
  | nil =>
    have hl : b.length ≤ i + 1 := by have := congrArg List.length hd; rw [List.length_drop, List.length_nil] at this; omega
    rw [if_pos (.inr (by omega))]
    rfl
  | cons d l =>
    have hl : i + 1 < b.length := by have := congrArg List.length hd; rw [List.length_drop, List.length_cons] at this; omega
    rw [cE]
    by_cases hc : b[i] = 10
    · rw [if_pos hc, if_pos (.inl hc)]
    · rw [if_neg hc, if_neg (fun h => by rcases h with h | h; exact hc h; omega)]
end Rd
end Go.Proofs.YtfpphhbpoaobfaaGreatDoor
