import Derived.Test.YtkknenmpdimdbaaDoorAtPType
import Derived.Test.YtkknenmpdimdbaaDoorNormMath
import Derived.Test.YtkknenmpdimdbaaDoorChkMath
import Derived.Shelf.SlSortCmp.SmallK
namespace Go.Proofs.YtkknenmpdimdbaaDoor
namespace Ke
open TextMath (fold lo normal check)
open Go.Sort
set_option linter.unusedVariables false

abbrev PR := List UInt8 × List UInt8
/-- Must the byte at place i of a value of n bytes be escaped? -/
def mst (n i : Nat) (b : UInt8) : Bool := b == 92 || b == 34 || b == 43 || b == 44 || b == 59 || b == 60 || b == 62 || (b == 35 && i == 0) || (b == 32 && (i == 0 || i + 1 == n))
/-- What is written for it. -/
def ec (n i : Nat) (b : UInt8) : List UInt8 := if b = 0 then [92, 48, 48] else if mst n i b then [92, b] else [b]
def escF (n : Nat) : Nat → List UInt8 → List UInt8
  | _, [] => []
  | i, b :: t => ec n i b ++ escF n (i + 1) t
def escV (v : List UInt8) : List UInt8 := escF v.length 0 v
theorem ec_len (n i : Nat) (b : UInt8) : (ec n i b).length ≤ 3 := by unfold ec; split <;> (try split) <;> simp
theorem escF_len (n : Nat) : ∀ (l : List UInt8) (i : Nat), (escF n i l).length ≤ 3 * l.length
  | [], _ => Nat.zero_le _
  | b :: t, i => by
    have := escF_len n t (i + 1)
    have := ec_len n i b
    simp only [escF, List.length_append, List.length_cons]
    omega
theorem escV_len (v : List UInt8) : (escV v).length ≤ 3 * v.length := escF_len _ _ _
theorem escF_snoc (n : Nat) (b : UInt8) : ∀ (l : List UInt8) (i : Nat), escF n i (l ++ [b]) = escF n i l ++ ec n (i + l.length) b
  | [], i => by simp [escF]
  | a :: t, i => by
    have := escF_snoc n b t (i + 1)
    simp only [List.cons_append, escF, this, List.length_cons, List.append_assoc]
    rw [show i + 1 + t.length = i + (t.length + 1) from by omega]
theorem mst48 (n i : Nat) : mst n i 48 = false := by
  unfold mst
  have h1 : ((48 : UInt8) == 35) = false := by decide
  have h2 : ((48 : UInt8) == 32) = false := by decide
  rw [h1, h2]
  rfl
theorem mst92 (n i : Nat) : mst n i 92 = true := by
  unfold mst
  rfl
theorem mst43 (n i : Nat) : mst n i 43 = true := by
  unfold mst
  rfl
theorem ec_head (n i : Nat) (b : UInt8) : ∃ c t, ec n i b = c :: t ∧ c ≠ 43 := by
  unfold ec
  split
  · exact ⟨_, _, rfl, by decide⟩
  · split
    · exact ⟨_, _, rfl, by decide⟩
    · rename_i h
      refine ⟨_, _, rfl, fun e => ?_⟩
      subst e
      exact h (mst43 n i)
theorem ec_inj {n i m j : Nat} {b c : UInt8} {X Y : List UInt8} (h : ec n i b ++ X = ec m j c ++ Y) : b = c ∧ X = Y := by
  unfold ec at h
  by_cases hb : b = 0
  · by_cases hc : c = 0
    · rw [if_pos hb, if_pos hc] at h
      exact ⟨by rw [hb, hc], by simpa using h⟩
    · rw [if_pos hb, if_neg hc] at h
      by_cases hm : mst m j c = true
      · rw [if_pos hm] at h
        simp at h
        have := h.1
        subst this
        rw [mst48] at hm
        cases hm
      · rw [if_neg hm] at h
        simp at h
        have := h.1
        subst this
        exact absurd (mst92 m j) hm
  · by_cases hc : c = 0
    · rw [if_neg hb, if_pos hc] at h
      by_cases hm : mst n i b = true
      · rw [if_pos hm] at h
        simp at h
        have := h.1
        subst this
        rw [mst48] at hm
        cases hm
      · rw [if_neg hm] at h
        simp at h
        have := h.1
        subst this
        exact absurd (mst92 n i) hm
    · rw [if_neg hb, if_neg hc] at h
      by_cases hm : mst n i b = true
      · by_cases hk : mst m j c = true
        · rw [if_pos hm, if_pos hk] at h
          simpa using h
        · rw [if_pos hm, if_neg hk] at h
          simp at h
          have := h.1
          subst this
          exact absurd (mst92 m j) hk
      · by_cases hk : mst m j c = true
        · rw [if_neg hm, if_pos hk] at h
          simp at h
          have := h.1
          subst this
          exact absurd (mst92 n i) hm
        · rw [if_neg hm, if_neg hk] at h
          simpa using h
/-- Nothing, or a plus sign at its front. -/
def Pl (r : List UInt8) : Prop := r = [] ∨ ∃ t, r = 43 :: t
theorem escF_inj : ∀ (l l' : List UInt8) (n i m j : Nat) (r r' : List UInt8), Pl r → Pl r' → escF n i l ++ r = escF m j l' ++ r' → l = l' ∧ r = r'
  | [], [], _, _, _, _, r, r', _, _, h => ⟨rfl, by simpa [escF] using h⟩
  | [], c :: t, n, i, m, j, r, r', hr, hr', h => by
    obtain ⟨d, u, e, hd⟩ := ec_head m j c
    simp only [escF, e, List.nil_append, List.cons_append] at h
    rcases hr with e' | ⟨q, e'⟩
    · rw [e'] at h; cases h
    · rw [e'] at h
      injection h with h _
      exact absurd h.symm hd
  | b :: t, [], n, i, m, j, r, r', hr, hr', h => by
    obtain ⟨d, u, e, hd⟩ := ec_head n i b
    simp only [escF, e, List.nil_append, List.cons_append] at h
    rcases hr' with e' | ⟨q, e'⟩
    · rw [e'] at h; cases h
    · rw [e'] at h
      injection h with h _
      exact absurd h hd
  | b :: t, c :: t', n, i, m, j, r, r', hr, hr', h => by
    simp only [escF, List.append_assoc] at h
    obtain ⟨h1, h2⟩ := ec_inj h
    obtain ⟨h3, h4⟩ := escF_inj t t' n (i + 1) m (j + 1) r r' hr hr' h2
    exact ⟨by rw [h1, h3], h4⟩
/-- A pair's text; a part's. -/
def pt1 (p : PR) : List UInt8 := p.1 ++ 61 :: escV p.2
def ptT (l : List PR) : List UInt8 := l.flatMap fun p => 43 :: pt1 p
def ptx : List PR → List UInt8
  | [] => []
  | p :: t => pt1 p ++ ptT t
theorem ptT_pl (l : List PR) : Pl (ptT l) := by
  cases l with
  | nil => exact Or.inl rfl
  | cons p t => exact Or.inr ⟨pt1 p ++ ptT t, by simp [ptT]⟩
theorem ptx_snoc (l : List PR) (p : PR) : ptx (l ++ [p]) = ptx l ++ (if l = [] then pt1 p else 43 :: pt1 p) := by
  cases l with
  | nil => simp [ptx, ptT]
  | cons a t => simp [ptx, ptT]
theorem split61 : ∀ (a b : List UInt8) (X Y : List UInt8), 61 ∉ a → 61 ∉ b → a ++ 61 :: X = b ++ 61 :: Y → a = b ∧ X = Y
  | [], [], X, Y, _, _, h => ⟨rfl, by simpa using h⟩
  | [], c :: b, X, Y, _, hb, h => by
    simp at h
    exact absurd (by rw [h.1]; simp) hb
  | c :: a, [], X, Y, ha, _, h => by
    simp at h
    exact absurd (by rw [h.1]; simp) ha
  | c :: a, d :: b, X, Y, ha, hb, h => by
    simp only [List.cons_append] at h
    injection h with h1 h2
    obtain ⟨h3, h4⟩ := split61 a b X Y (fun q => ha (by simp [q])) (fun q => hb (by simp [q])) h2
    exact ⟨by rw [h1, h3], h4⟩
theorem pt_inj : ∀ (t t' : List PR) (p q : PR), 61 ∉ p.1 → 61 ∉ q.1 → (∀ x ∈ t, 61 ∉ x.1) → (∀ x ∈ t', 61 ∉ x.1) → pt1 p ++ ptT t = pt1 q ++ ptT t' → p = q ∧ t = t'
  | t, t', p, q, hp, hq, ht, ht', h => by
    unfold pt1 at h
    simp only [List.append_assoc, List.cons_append] at h
    obtain ⟨h1, h2⟩ := split61 _ _ _ _ hp hq h
    obtain ⟨h3, h4⟩ := escF_inj p.2 q.2 p.2.length 0 q.2.length 0 (ptT t) (ptT t') (ptT_pl t) (ptT_pl t') h2
    refine ⟨Prod.ext h1 h3, ?_⟩
    match t, t' with
    | [], [] => rfl
    | [], c :: t' => simp [ptT] at h4
    | c :: t, [] => simp [ptT] at h4
    | c :: t, d :: t' =>
      have h5 : pt1 c ++ ptT t = pt1 d ++ ptT t' := by simpa [ptT] using h4
      obtain ⟨h6, h7⟩ := pt_inj t t' c d (ht c (by simp)) (ht' d (by simp)) (fun x hx => ht x (by simp [hx])) (fun x hx => ht' x (by simp [hx])) h5
      rw [h6, h7]
theorem ptx_inj (l l' : List PR) (h : ∀ x ∈ l, 61 ∉ x.1) (h' : ∀ x ∈ l', 61 ∉ x.1) (e : ptx l = ptx l') : l = l' := by
  match l, l' with
  | [], [] => rfl
  | [], c :: t => simp [ptx, pt1] at e
  | c :: t, [] => simp [ptx, pt1] at e
  | c :: t, d :: t' =>
    obtain ⟨h6, h7⟩ := pt_inj t t' c d (h c (by simp)) (h' d (by simp)) (fun x hx => h x (by simp [hx])) (fun x hx => h' x (by simp [hx])) e
    rw [h6, h7]

/-- Is it a type; its canonical one. -/
def tyR (s : List UInt8) : ByteArray × Int × Nat := parsT (S (fold s))
def tyOk (s : List UInt8) : Bool := decide ((tyR s).2.1 = 0)
def tyC (s : List UInt8) : List UInt8 := (tyR s).1.data.toList
theorem tyR_er (s : List UInt8) : (tyR s).2.1 = if tyOk s = true then 0 else 40 := by
  unfold tyOk tyR parsT
  split <;> simp
/-- A byte of a type. -/
def Gd (x : UInt8) : Prop := isK x = true ∨ x.toNat = 46
theorem Gd.ne {x : UInt8} (h : Gd x) : x ≠ 61 := fun e => by
  subst e
  rcases h with h | h
  · revert h; decide
  · revert h; decide
theorem isD_K (x : UInt8) (h : isD x = true) : isK x = true := by unfold isK; rw [h]; simp
theorem run_good (p : UInt8 → Bool) (hp : ∀ x, p x = true → Gd x) (l : List UInt8) (e : Nat) (h : ∀ x ∈ l.take e, Gd x) : ∀ x ∈ l.take (runE p l e), Gd x := by
  intro x hx
  unfold runE at hx
  rw [List.take_add, List.mem_append] at hx
  rcases hx with hx | hx
  · exact h x hx
  · have e1 : (l.drop e).take ((l.drop e).takeWhile p).length = (l.drop e).takeWhile p := by
      generalize l.drop e = k
      induction k with
      | nil => rfl
      | cons a k ih =>
        rw [List.takeWhile_cons]
        split
        · rw [List.length_cons, List.take_succ_cons, ih]
        · rfl
    rw [e1] at hx
    have hp' : ∀ (k : List UInt8) (y : UInt8), y ∈ k.takeWhile p → p y = true := fun k => by
      induction k with
      | nil => intro y hy; simp at hy
      | cons a k ih =>
        intro y hy
        rw [List.takeWhile_cons] at hy
        split at hy
        · rename_i ha
          rcases List.mem_cons.1 hy with e | e
          · rw [e]; exact ha
          · exact ih y e
        · simp at hy
    exact hp x (hp' _ _ hx)
theorem take_one (l : List UInt8) (e : Nat) (P : UInt8 → Prop) (h : ∀ x ∈ l.take e, P x) (h1 : e < l.length → P (l.getD e 0)) : ∀ x ∈ l.take (e + 1), P x := by
  intro x hx
  rw [List.take_add, List.mem_append] at hx
  rcases hx with hx | hx
  · exact h x hx
  · rcases Nat.lt_or_ge e l.length with he | he
    · have e1 : (l.drop e).take 1 = [l.getD e 0] := by
        rw [List.drop_eq_getElem_cons he, List.take_succ_cons, List.take_zero, List.getD_eq_getElem?_getD, List.getElem?_eq_getElem he]
        rfl
      rw [e1, List.mem_singleton] at hx
      rw [hx]
      exact h1 he
    · rw [List.drop_of_length_le he] at hx
      simp at hx
theorem num_good (l : List UInt8) (e : Nat) (h : ∀ x ∈ l.take e, Gd x) : ∀ x ∈ l.take (numE l e), Gd x := by
  unfold numE
  split
  · rename_i hc
    refine take_one l e Gd h (fun _ => Or.inl ?_)
    have : (l.getD e 0).toNat = 48 := hc.1
    unfold isK isL isD
    rw [this]
    decide
  · exact run_good isD (fun x hx => Or.inl (isD_K x hx)) l e h
theorem id_good (l : List UInt8) : ∀ (n m e : Nat), (∀ x ∈ l.take e, Gd x) → ∀ x ∈ l.take (idE l n m e).1, Gd x
  | 0, m, e, h => h
  | n + 1, m, e, h => by
    unfold idE
    split
    · exact h
    · split
      · exact num_good l e h
      · rename_i hn
        refine id_good l n (m + 1) (numE l e + 1) (take_one l _ Gd (num_good l e h) (fun _ => Or.inr ?_))
        by_cases hq : (l.getD (numE l e) 0).toNat = 46
        · exact hq
        · exact absurd (Or.inr hq) hn
theorem typ_good (l : List UInt8) : ∀ x ∈ l.take (typE l).1, Gd x := by
  unfold typE
  split
  · rename_i hc
    refine run_good isK (fun x hx => Or.inl hx) l 1 (take_one l 0 Gd (fun x hx => by simp at hx) (fun _ => Or.inl ?_))
    unfold isK
    rw [hc.2]
    rfl
  · exact id_good l _ _ _ (fun x hx => by simp at hx)
theorem nm61 : ∀ i : Fin 62, ∀ b ∈ (rowL i).1.data.toList, b ≠ 61 := by decide +kernel
/-- No canonical type holds an equals sign. -/
theorem tyC61 (s : List UInt8) (h : tyOk s = true) : 61 ∉ tyC s := by
  unfold tyOk at h
  have h := of_decide_eq_true h
  unfold tyC tyR parsT at *
  split at h
  · rename_i hc
    rw [if_pos hc]
    show 61 ∉ (canN (S (fold s))).data.toList
    unfold canN
    split
    · intro hm
      have hk := typ_good (S (fold s)).data.toList
      rw [List.take_of_length_le (by rw [size_l]; omega)] at hk
      exact (hk _ hm).ne rfl
    · rename_i i _
      exact fun hm => nm61 i _ hm rfl
  · simp at h
end Ke
end Go.Proofs.YtkknenmpdimdbaaDoor
