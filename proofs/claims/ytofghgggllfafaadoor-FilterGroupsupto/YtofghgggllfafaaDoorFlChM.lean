import Derived.Test.YtofghgggllfafaaDoorFlSnd
namespace Go.Proofs.YtofghgggllfafaaDoor
open Go.RowKit
open TextMath
set_option linter.unusedVariables false

/-- Has a node what its Op asks for? -/
def sndN (x : Nod) : Bool := sou x.op (S x.desc) (S x.val) (S x.ini) (S x.fin) (S x.rule) x.l x.dn
/-- Of the nodes ahead (the nearest first): was the last one of this depth a Not? -/
def ln : List Nod → Int → Bool
  | [], _ => false
  | x :: r, d => if x.dep = d then decide (x.op = 2) else ln r d
/-- Stands a node of depth D beneath a Not that has a kid already? -/
def sec : Bool → List Nod → Int → Bool
  | _, [], _ => false
  | k, x :: r, D => if x.dep < D then k && decide (x.op = 2) else sec (k || decide (x.dep = D)) r D
/-- May a node stand behind those ahead? -/
def fol : List Nod → Nod → Bool
  | [], n => decide (n.dep = 1)
  | b :: _, n => decide (2 ≤ n.dep ∧ n.dep ≤ b.dep + 1 ∧ (n.dep ≤ b.dep ∨ hol b.op = true))
def nx : List Nod → Int → Bool
  | [], _ => false
  | m :: _, d => decide (m.dep = d)
/-- What is wrong with a node. -/
def er (r : List Nod) (n : Nod) (t : List Nod) : Int :=
  if fol r n = false then 120
  else if 64 < n.dep then 121
  else if sndN n = false ∨ sec false r n.dep = true then 120
  else if n.op = 2 ∧ nx t (n.dep + 1) = false then 120
  else 0
def chkL : List Nod → List Nod → Nat → Int × Nat
  | _, [], _ => (0, 0)
  | r, n :: t, k => if er r n t = 0 then chkL (n :: r) t (k + 1) else (er r n t, k)
def chkF (xs : List Nod) : Int × Nat := if xs = [] then (120, 0) else chkL [] xs 0
/-- The nodes ahead are a tree's. -/
def chain : List Nod → Prop
  | [] => True
  | [x] => x.dep = 1
  | x :: y :: r => (2 ≤ x.dep ∧ x.dep ≤ y.dep + 1) ∧ chain (y :: r)
def okc (r : List Nod) : Prop := chain r ∧ ∀ x ∈ r, 1 ≤ x.dep ∧ x.dep ≤ 64
theorem okc_nil : okc [] := ⟨trivial, fun x hx => by cases hx⟩
theorem er_fol {r t : List Nod} {n : Nod} (h : er r n t = 0) : fol r n = true ∧ n.dep ≤ 64 ∧ sndN n = true ∧ sec false r n.dep = false := by
  unfold er at h
  by_cases h1 : fol r n = false
  · rw [if_pos h1] at h; cases h
  · rw [if_neg h1] at h
    by_cases h2 : 64 < n.dep
    · rw [if_pos h2] at h; cases h
    · rw [if_neg h2] at h
      by_cases h3 : sndN n = false ∨ sec false r n.dep = true
      · rw [if_pos h3] at h; cases h
      · refine ⟨by simpa using h1, by omega, ?_, ?_⟩
        · cases e : sndN n with
          | true => rfl
          | false => exact absurd (Or.inl e) h3
        · cases e : sec false r n.dep with
          | false => rfl
          | true => exact absurd (Or.inr e) h3
theorem fol_dep {r : List Nod} {n : Nod} (ho : okc r) (h : fol r n = true) : 1 ≤ n.dep ∧ n.dep ≤ 65 ∧ (∀ y r', r = y :: r' → 2 ≤ n.dep ∧ n.dep ≤ y.dep + 1) := by
  cases r with
  | nil =>
    simp [fol] at h
    exact ⟨by omega, by omega, fun y r' e => by cases e⟩
  | cons y r' =>
    simp [fol] at h
    have := (ho.2 y (List.mem_cons_self ..)).2
    exact ⟨by omega, by omega, fun z r'' e => by injection e with e _; subst e; omega⟩
theorem okc_step {r t : List Nod} {n : Nod} (ho : okc r) (h : er r n t = 0) : okc (n :: r) := by
  obtain ⟨h1, h2, _, _⟩ := er_fol h
  obtain ⟨g1, _, g3⟩ := fol_dep ho h1
  refine ⟨?_, fun x hx => ?_⟩
  · cases r with
    | nil => simp [fol] at h1; exact h1
    | cons y r' => exact ⟨g3 y r' rfl, ho.1⟩
  · rcases List.mem_cons.1 hx with rfl | hx
    · exact ⟨g1, h2⟩
    · exact ho.2 x hx
theorem sec_ln (D : Int) (hD : 2 ≤ D) : ∀ (r : List Nod) (y : Nod) (k : Bool), chain (y :: r) → D ≤ y.dep + 1 → sec k (y :: r) D = ((k || decide (D ≤ y.dep)) && ln (y :: r) (D - 1))
  | r, y, k, hc, hy => by
    by_cases h1 : y.dep < D
    · have e : y.dep = D - 1 := by omega
      have e2 : ¬ D ≤ y.dep := by omega
      simp only [sec, ln, if_pos h1, if_pos e, decide_eq_false e2, Bool.or_false]
    · have e : ¬ y.dep = D - 1 := by omega
      have e2 : D ≤ y.dep := by omega
      simp only [sec, ln, if_neg h1, if_neg e, decide_eq_true e2, Bool.or_true, Bool.true_and]
      cases r with
      | nil =>
        have : y.dep = 1 := hc
        omega
      | cons z r' =>
        obtain ⟨⟨_, hz⟩, hc'⟩ := hc
        rw [sec_ln D hD r' z _ hc' (by omega)]
        have : (k || decide (y.dep = D) || decide (D ≤ z.dep)) = true := by
          by_cases h3 : y.dep = D
          · simp [h3]
          · have : D ≤ z.dep := by omega
            simp [this]
        rw [this, Bool.true_and]
def ahd : List Nod → Int
  | [] => 0
  | y :: _ => y.dep
def aho : List Nod → Int
  | [] => 0
  | y :: _ => y.op
theorem sec_prog {r : List Nod} {n : Nod} (ho : okc r) (h : fol r n = true) : (ln r (n.dep - 1) && decide (n.dep ≤ ahd r)) = sec false r n.dep := by
  cases r with
  | nil => simp [ln, sec]
  | cons y r' =>
    obtain ⟨g1, g2, g3⟩ := fol_dep ho h
    rw [sec_ln n.dep (g3 y r' rfl).1 r' y false ho.1 (g3 y r' rfl).2, Bool.false_or, Bool.and_comm]
    rfl
/-- The program's own test of the depths. -/
def pf (d a o : Int) : Bool := if d = a + 1 then hol o else decide (2 ≤ d ∧ d ≤ a)
theorem pf_fol {r : List Nod} {n : Nod} (ho : okc r) : pf n.dep (ahd r) (aho r) = fol r n := by
  cases r with
  | nil =>
    show pf n.dep 0 0 = decide (n.dep = 1)
    unfold pf
    by_cases h : n.dep = 1
    · simp [h, hol]
    · have : ¬ (2 ≤ n.dep ∧ n.dep ≤ 0) := by omega
      have h' : ¬ n.dep = 0 + 1 := by omega
      rw [if_neg h', decide_eq_false this, decide_eq_false h]
  | cons y r' =>
    have hy := ho.2 y (List.mem_cons_self ..)
    show pf n.dep y.dep y.op = decide (2 ≤ n.dep ∧ n.dep ≤ y.dep + 1 ∧ (n.dep ≤ y.dep ∨ hol y.op = true))
    unfold pf
    by_cases h : n.dep = y.dep + 1
    · rw [if_pos h]
      cases e : hol y.op with
      | true => rw [decide_eq_true]; exact ⟨by omega, by omega, Or.inr rfl⟩
      | false => rw [decide_eq_false]; rintro ⟨_, _, h1 | h1⟩
                 · omega
                 · cases h1
    · rw [if_neg h]
      by_cases h2 : 2 ≤ n.dep ∧ n.dep ≤ y.dep
      · rw [decide_eq_true h2, decide_eq_true]; exact ⟨h2.1, by omega, Or.inl h2.2⟩
      · rw [decide_eq_false h2, decide_eq_false]; rintro ⟨a, b, _⟩; omega
/-- By places. -/
def pre (xs : List Nod) (i : Nat) : List Nod := (xs.take i).reverse
theorem pre_zero (xs : List Nod) : pre xs 0 = [] := by simp [pre]
theorem pre_succ {xs : List Nod} {i : Nat} (h : i < xs.length) : pre xs (i + 1) = xs[i] :: pre xs i := by
  simp only [pre]
  rw [List.take_succ_eq_append_getElem h, List.reverse_append]
  rfl
theorem chkL_step {xs : List Nod} {i : Nat} (h : i < xs.length) : chkL (pre xs i) (xs.drop i) i = if er (pre xs i) xs[i] (xs.drop (i + 1)) = 0 then chkL (pre xs (i + 1)) (xs.drop (i + 1)) (i + 1) else (er (pre xs i) xs[i] (xs.drop (i + 1)), i) := by
  rw [List.drop_eq_getElem_cons h, pre_succ h]
  rfl
theorem chkF_start {xs : List Nod} (h : ¬ xs = []) : chkF xs = chkL (pre xs 0) (xs.drop 0) 0 := by
  unfold chkF
  rw [if_neg h, pre_zero]
  rfl
/-- The greatest depth. -/
def dpt (xs : List Nod) : Int := xs.foldl (fun d x => if d < x.dep then x.dep else d) 0
theorem dpt_take {xs : List Nod} {i : Nat} (h : i < xs.length) : dpt (xs.take (i + 1)) = if dpt (xs.take i) < xs[i].dep then xs[i].dep else dpt (xs.take i) := by
  unfold dpt
  rw [List.take_succ_eq_append_getElem h, List.foldl_append]
  rfl
/-- Like lists are checked alike. -/
theorem np_snd {x y : Nod} (h : np x = np y) : x.dep = y.dep ∧ x.op = y.op ∧ sndN x = sndN y := by
  simp only [np, Prod.mk.injEq] at h
  obtain ⟨h1, h2, h3, h4, h5, h6, h7, h8, h9⟩ := h
  exact ⟨h1, h2, by unfold sndN; rw [h2, h3, h4, h5, h6, h7, h8, h9]⟩
theorem np_cons {x : Nod} {xs ys : List Nod} (h : (x :: xs).map np = ys.map np) : ∃ y ys', ys = y :: ys' ∧ np x = np y ∧ xs.map np = ys'.map np := by
  cases ys with
  | nil => simp at h
  | cons y ys' =>
    simp only [List.map_cons, List.cons.injEq] at h
    exact ⟨y, ys', rfl, h.1, h.2⟩
theorem sec_np (D : Int) : ∀ (xs ys : List Nod) (k : Bool), xs.map np = ys.map np → sec k xs D = sec k ys D
  | [], ys, k, h => by
    cases ys with
    | nil => rfl
    | cons _ _ => simp at h
  | x :: xs, ys, k, h => by
    obtain ⟨y, ys', rfl, h1, h2⟩ := np_cons h
    obtain ⟨e1, e2, _⟩ := np_snd h1
    simp only [sec, e1, e2]
    rw [sec_np D xs ys' _ h2]
theorem er_np {r r' t t' : List Nod} {x y : Nod} (h1 : r.map np = r'.map np) (h2 : np x = np y) (h3 : t.map np = t'.map np) : er r x t = er r' y t' := by
  obtain ⟨e1, e2, e3⟩ := np_snd h2
  have f1 : fol r x = fol r' y := by
    cases r with
    | nil =>
      cases r' with
      | nil => simp only [fol, e1]
      | cons _ _ => simp at h1
    | cons b r =>
      obtain ⟨b', r'', rfl, g1, _⟩ := np_cons h1
      obtain ⟨q1, q2, _⟩ := np_snd g1
      simp only [fol, e1, q1, q2]
  have f2 : nx t (x.dep + 1) = nx t' (y.dep + 1) := by
    cases t with
    | nil =>
      cases t' with
      | nil => rfl
      | cons _ _ => simp at h3
    | cons b t =>
      obtain ⟨b', t'', rfl, g1, _⟩ := np_cons h3
      simp only [nx, e1, (np_snd g1).1]
  unfold er
  rw [f1, f2, e1, e2, e3, sec_np y.dep r r' false h1]
theorem chkL_np : ∀ (xs ys r r' : List Nod) (k : Nat), xs.map np = ys.map np → r.map np = r'.map np → chkL r xs k = chkL r' ys k
  | [], ys, r, r', k, h, h' => by
    cases ys with
    | nil => rfl
    | cons _ _ => simp at h
  | x :: xs, ys, r, r', k, h, h' => by
    obtain ⟨y, ys', rfl, h1, h2⟩ := np_cons h
    simp only [chkL]
    rw [er_np h' h1 h2, chkL_np xs ys' (x :: r) (y :: r') (k + 1) h2 (by simp [h1, h'])]
theorem chkF_np {xs ys : List Nod} (h : xs.map np = ys.map np) : chkF xs = chkF ys := by
  unfold chkF
  by_cases h0 : xs = []
  · subst h0
    cases ys with
    | nil => rfl
    | cons _ _ => simp at h
  · have h1 : ¬ ys = [] := fun e => h0 (by subst e; simpa using h)
    rw [if_neg h0, if_neg h1, chkL_np xs ys [] [] 0 h rfl]
theorem dpt_np {xs ys : List Nod} (h : xs.map np = ys.map np) : dpt xs = dpt ys := by
  have e : ∀ zs : List Nod, dpt zs = (zs.map np).foldl (fun d x => if d < x.1 then x.1 else d) 0 := fun zs => by
    unfold dpt
    rw [List.foldl_map]
    rfl
  rw [e, e, h]
end Go.Proofs.YtofghgggllfafaaDoor
