import Derived.Test.YtgfonnjblbpogaaBnM
namespace Go.Proofs.Ytgfonnjblbpogaa
open Go.RowKit
open BerMath (Hd HR num hAt wAt El TR elEnd endE one andThen kids)
set_option linter.unusedVariables false
namespace BrM

/-- What is left, by the ends of the elements that stand open, the innermost first. -/
def rs (b : List UInt8) (N : Nat) : List Nat → Nat → TR
  | [], _ => ([], none)
  | e :: st, p => andThen (kids b N e p (st.length + 2)) (fun _ => rs b N st e)
/-- The ends rise outwards. -/
def Srt : Nat → List Nat → Prop
  | _, [] => True
  | p, e :: st => p ≤ e ∧ Srt e st
/-- Where the walk stands. -/
def Inv (s : ByteArray) (l : List El) (st : List Nat) (p : Nat) : Prop :=
  l ≠ [] ∧ tr s = (l ++ (rs s.data.toList s.size st p).1, (rs s.data.toList s.size st p).2) ∧ (st.head? = some (lastE l) ∨ p = lastE l) ∧ Srt p st ∧ (∀ e ∈ st, e ≤ s.size ∧ e ≤ 4294967301) ∧ st.length ≤ 64 ∧ 2 * l.length ≤ p ∧ p ≤ s.size ∧ p ≤ 4294967301
theorem andThen_nil (r : TR) : andThen r (fun _ => ([], none)) = r := by
  obtain ⟨xs, o⟩ := r
  cases o <;> simp [andThen]
theorem rs_pop (b : List UInt8) (N e : Nat) (st : List Nat) : rs b N (e :: st) e = rs b N st e := by
  show andThen (kids b N e e _) _ = _
  rw [BerMath.kids_end _ _ _ _ _ (Nat.le_refl _)]
  unfold andThen
  simp
theorem Inv.pop {s : ByteArray} {l : List El} {e : Nat} {st : List Nat} (h : Inv s l (e :: st) e) : Inv s l st e := by
  obtain ⟨h1, h2, h3, h4, h5, h6, h7, h8, h9⟩ := h
  rw [rs_pop] at h2
  refine ⟨h1, h2, Or.inr ?_, h4.2, fun x hx => h5 x (List.mem_cons_of_mem _ hx), by simp at h6; omega, h7, h8, h9⟩
  rcases h3 with h3 | h3
  · simpa using h3
  · exact h3
theorem Inv.done {s : ByteArray} {l : List El} {p : Nat} (h : Inv s l [] p) : tr s = (l, none) ∧ p = lastE l := by
  obtain ⟨h1, h2, h3, _⟩ := h
  refine ⟨?_, ?_⟩
  · rw [h2]
    show (l ++ [], none) = _
    rw [List.append_nil]
  · rcases h3 with h3 | h3
    · simp at h3
    · exact h3
theorem lastE_app (l : List El) (x : El) : lastE (l ++ [x]) = elEnd x := lastE_snoc l x
theorem rs_fail {b : List UInt8} {N e p : Nat} {st : List Nat} {f : Nat × Nat} (hp : p < e) (hN : e ≤ N) (ho : ∀ K, one b K 26 e p (st.length + 2) = ([], some f)) : rs b N (e :: st) p = ([], some f) := by
  obtain ⟨n, rfl⟩ : ∃ n, N = n + 1 := ⟨N - 1, by omega⟩
  show andThen (kids b (n + 1) e p _) _ = _
  rw [BerMath.kids_succ _ _ _ _ _ (by omega), ho]
  rfl
theorem rs_leaf {b : List UInt8} {N e p : Nat} {st : List Nat} {x : Hd} (hp : p < e) (hN : e ≤ N) (hd : ¬ 64 < st.length + 2) (hw : wAt b p e = .ok x) (hm : ¬ x.made = true) : rs b N (e :: st) p = ((p, x, st.length + 2) :: (rs b N ((p + x.size + x.len) :: e :: st) (p + x.size + x.len)).1, (rs b N ((p + x.size + x.len) :: e :: st) (p + x.size + x.len)).2) := by
  obtain ⟨k1, k2, k3, k4, k5, k6⟩ := BerMath.wAt_ok b p e x hw
  rw [rs_pop]
  obtain ⟨n, rfl⟩ : ∃ n, N = n + 1 := ⟨N - 1, by omega⟩
  show andThen (kids b (n + 1) e p _) _ = _
  rw [BerMath.kids_succ _ _ _ _ _ (by omega), BerMath.one_leaf _ _ _ _ _ _ x hd hw hm]
  show andThen (andThen ([(p, x, st.length + 2)], none) (fun xs => kids b n e (endE xs) (st.length + 2))) _ = (_ :: (andThen (kids b (n + 1) e (p + x.size + x.len) (st.length + 2)) _).1, (andThen (kids b (n + 1) e (p + x.size + x.len) (st.length + 2)) _).2)
  rw [← BerMath.kids_fuel b n (n + 1) e (p + x.size + x.len) (st.length + 2) (by omega) (by omega)]
  show andThen ([(p, x, st.length + 2)] ++ (kids b n e (p + x.size + x.len) (st.length + 2)).1, (kids b n e (p + x.size + x.len) (st.length + 2)).2) _ = _
  obtain ⟨⟨ys, o⟩, hr⟩ : ∃ y, kids b n e (p + x.size + x.len) (st.length + 2) = y := ⟨_, rfl⟩
  rw [hr]
  cases o <;> simp [andThen]
theorem rs_made {b : List UInt8} {N e p : Nat} {st : List Nat} {x : Hd} (hp : p < e) (hN : e ≤ N) (hd : ¬ 64 < st.length + 2) (hw : wAt b p e = .ok x) (hm : x.made = true) : rs b N (e :: st) p = ((p, x, st.length + 2) :: (rs b N ((p + x.size + x.len) :: e :: st) (p + x.size)).1, (rs b N ((p + x.size + x.len) :: e :: st) (p + x.size)).2) := by
  obtain ⟨k1, k2, k3, k4, k5, k6⟩ := BerMath.wAt_ok b p e x hw
  obtain ⟨n, rfl⟩ : ∃ n, N = n + 1 := ⟨N - 1, by omega⟩
  have hR : rs b (n + 1) ((p + x.size + x.len) :: e :: st) (p + x.size) = andThen (kids b n (p + x.size + x.len) (p + x.size) (st.length + 2 + 1)) (fun _ => andThen (kids b n e (p + x.size + x.len) (st.length + 2)) (fun _ => rs b (n + 1) st e)) := by
    show andThen (kids b (n + 1) (p + x.size + x.len) (p + x.size) (st.length + 1 + 2)) (fun _ => andThen (kids b (n + 1) e (p + x.size + x.len) (st.length + 2)) _) = _
    rw [BerMath.kids_fuel b (n + 1) n e (p + x.size + x.len) _ (by omega) (by omega), BerMath.kids_fuel b (n + 1) n (p + x.size + x.len) (p + x.size) _ (by omega) (by omega)]
  rw [hR]
  show andThen (kids b (n + 1) e p _) _ = _
  rw [BerMath.kids_succ _ _ _ _ _ (by omega), BerMath.one_made _ _ _ _ _ _ x hd hw hm]
  obtain ⟨⟨ys, o⟩, hr⟩ : ∃ y, kids b n (p + x.size + x.len) (p + x.size) (st.length + 2 + 1) = y := ⟨_, rfl⟩
  rw [hr]
  cases o with
  | some f => rfl
  | none =>
    show andThen (((p, x, st.length + 2) :: ys) ++ (kids b n e (p + x.size + x.len) (st.length + 2)).1, (kids b n e (p + x.size + x.len) (st.length + 2)).2) _ = _
    obtain ⟨⟨zs, o⟩, hz⟩ : ∃ y, kids b n e (p + x.size + x.len) (st.length + 2) = y := ⟨_, rfl⟩
    rw [hz]
    cases o <;> simp [andThen]
/-- One element more. -/
theorem Inv.step {s : ByteArray} {l : List El} {e p : Nat} {st : List Nat} {x : Hd} (h : Inv s l (e :: st) p) (hp : p < e) (hd : ¬ 64 < st.length + 2) (hw : wAt s.data.toList p e = .ok x) :
    Inv s (l ++ [(p, x, st.length + 2)]) ((p + x.size + x.len) :: e :: st) (if x.made = true then p + x.size else p + x.size + x.len) := by
  obtain ⟨h1, h2, h3, h4, h5, h6, h7, h8, h9⟩ := h
  obtain ⟨k1, k2, k3, k4, k5, k6⟩ := BerMath.wAt_ok _ p e x hw
  have he := h5 e (List.mem_cons_self ..)
  refine ⟨by simp, ?_, Or.inl ?_, ?_, ?_, ?_, ?_, ?_, ?_⟩
  · by_cases hm : x.made = true
    · rw [if_pos hm, h2, rs_made hp he.1 hd hw hm, List.append_assoc]
      rfl
    · rw [if_neg hm, h2, rs_leaf hp he.1 hd hw hm, List.append_assoc]
      rfl
  · rw [lastE_app]
    rfl
  · refine ⟨?_, k6, h4.2⟩
    split <;> omega
  · intro y hy
    rcases List.mem_cons.1 hy with rfl | hy
    · omega
    · exact h5 y hy
  · simp only [List.length_cons]
    omega
  · rw [List.length_append]
    simp only [List.length_cons, List.length_nil]
    split <;> omega
  · split <;> omega
  · split <;> omega
/-- The first element. -/
theorem Inv.start {s : ByteArray} {x : Hd} (hw : wAt s.data.toList 0 s.size = .ok x) :
    Inv s [(0, x, 1)] [0 + x.size + x.len] (if x.made = true then 0 + x.size else 0 + x.size + x.len) := by
  obtain ⟨k1, k2, k3, k4, k5, k6⟩ := BerMath.wAt_ok _ 0 _ x hw
  refine ⟨by simp, ?_, Or.inl ?_, ?_, ?_, ?_, ?_, ?_, ?_⟩
  · unfold tr
    by_cases hm : x.made = true
    · rw [if_pos hm, BerMath.one_made _ _ _ _ _ _ x (by decide) hw hm]
      show _ = ([_] ++ (andThen (kids _ _ _ _ 2) (fun _ => ([], none))).1, (andThen (kids _ _ _ _ 2) (fun _ => ([], none))).2)
      rw [andThen_nil]
      rfl
    · rw [if_neg hm, BerMath.one_leaf _ _ _ _ _ _ x (by decide) hw hm, rs_pop]
      rfl
  · rfl
  · refine ⟨?_, trivial⟩
    split <;> omega
  · intro y hy
    rcases List.mem_cons.1 hy with rfl | hy
    · omega
    · simp at hy
  · simp
  · simp only [List.length_cons, List.length_nil]
    split <;> omega
  · split <;> omega
  · split <;> omega
theorem Inv.fail {s : ByteArray} {l : List El} {e p : Nat} {st : List Nat} {f : Nat × Nat} (h : Inv s l (e :: st) p) (hp : p < e) (ho : ∀ K, one s.data.toList K 26 e p (st.length + 2) = ([], some f)) : tr s = (l, some f) := by
  obtain ⟨h1, h2, h3, h4, h5, h6, h7, h8, h9⟩ := h
  rw [h2, rs_fail hp (h5 e (List.mem_cons_self ..)).1 ho]
  simp
end BrM
end Go.Proofs.Ytgfonnjblbpogaa
