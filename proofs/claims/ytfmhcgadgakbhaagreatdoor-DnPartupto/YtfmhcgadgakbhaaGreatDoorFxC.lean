import Derived.Test.YtfmhcgadgakbhaaGreatDoorFxB
import Derived.Test.YtfmhcgadgakbhaaGreatDoorFxA
import Derived.Shelf.SlSortCmp.SmallK
namespace Go.Proofs.YtfmhcgadgakbhaaGreatDoor
namespace Ke
open TextMath (fold lo normal check)
open Go.Sort
set_option linter.unusedVariables false

abbrev PR := List UInt8 × List UInt8
/-- Must the byte at place i of a value of n bytes be escaped? -/
def mst (n i : Nat) (b : UInt8) : Bool := b == 92 || b == 34 || b == 43 || b == 44 || b == 59 || b == 60 || b == 62 || (b == 35 && i == 0) || (b == 32 && (i == 0 || i + 1 == n))
/-- What is written for it. -/
def ec (n i : Nat) (b : UInt8) : List UInt8 := if b = 0 then [92, 48, 48] else if mst n i b then [92, b] else [b]
def escF (n : Nat) : Nat → List UInt8 → List UInt8
  | _, [] => []
  | i, b :: t => ec n i b ++ escF n (i + 1) t
def escV (v : List UInt8) : List UInt8 := escF v.length 0 v
theorem ec_len (n i : Nat) (b : UInt8) : (ec n i b).length ≤ 3 := by unfold ec; split <;> (try split) <;> simp
theorem escF_len (n : Nat) : ∀ (l : List UInt8) (i : Nat), (escF n i l).length ≤ 3 * l.length
  | [], _ => Nat.zero_le _
  | b :: t, i => by
    have := escF_len n t (i + 1)
    have := ec_len n i b
    simp only [escF, List.length_append, List.length_cons]
    omega
theorem escV_len (v : List UInt8) : (escV v).length ≤ 3 * v.length := escF_len _ _ _
theorem escF_snoc (n : Nat) (b : UInt8) : ∀ (l : List UInt8) (i : Nat), escF n i (l ++ [b]) = escF n i l ++ ec n (i + l.length) b
  | [], i => by simp [escF]
  | a :: t, i => by
    have := escF_snoc n b t (i + 1)
    simp only [List.cons_append, escF, this, List.length_cons, List.append_assoc]
    rw [show i + 1 + t.length = i + (t.length + 1) from by omega]
theorem mst48 (n i : Nat) : mst n i 48 = false := by
  unfold mst
  have h1 : ((48 : UInt8) == 35) = false := by decide
  have h2 : ((48 : UInt8) == 32) = false := by decide
  rw [h1, h2]
  rfl
theorem mst92 (n i : Nat) : mst n i 92 = true := by
  unfold mst
  rfl
theorem mst43 (n i : Nat) : mst n i 43 = true := by
  unfold mst
  rfl
theorem ec_head (n i : Nat) (b : UInt8) : ∃ c t, ec n i b = c :: t ∧ c ≠ 43 := by
  unfold ec
  split
  · exact ⟨_, _, rfl, by decide⟩
  · split
    · exact ⟨_, _, rfl, by decide⟩
    · rename_i h
      refine ⟨_, _, rfl, fun e => ?_⟩
      subst e
      exact h (mst43 n i)
theorem ec_inj {n i m j : Nat} {b c : UInt8} {X Y : List UInt8} (h : ec n i b ++ X = ec m j c ++ Y) : b = c ∧ X = Y := by
  unfold ec at h
  by_cases hb : b = 0
  · by_cases hc : c = 0
    · rw [if_pos hb, if_pos hc] at h
      exact ⟨by rw [hb, hc], by simpa using h⟩
    · rw [if_pos hb, if_neg hc] at h
      by_cases hm : mst m j c = true
      · rw [if_pos hm] at h
        simp at h
        have := h.1
        subst this
        rw [mst48] at hm
        cases hm
      · rw [if_neg hm] at h
        simp at h
        have := h.1
        subst this
        exact absurd (mst92 m j) hm
  · by_cases hc : c = 0
    · rw [if_neg hb, if_pos hc] at h
      by_cases hm : mst n i b = true
      · rw [if_pos hm] at h
        simp at h
        have := h.1
        subst this
        rw [mst48] at hm
        cases hm
      · rw [if_neg hm] at h
        simp at h
        have := h.1
        subst this
        exact absurd (mst92 n i) hm
    · rw [if_neg hb, if_neg hc] at h
      by_cases hm : mst n i b = true
      · by_cases hk : mst m j c = true
        · rw [if_pos hm, if_pos hk] at h
          simpa using h
        · rw [if_pos hm, if_neg hk] at h
          simp at h
          have := h.1
          subst this
          exact absurd (mst92 m j) hk
      · by_cases hk : mst m j c = true
        · rw [if_neg hm, if_pos hk] at h
          simp at h
          have := h.1
          subst this
          exact absurd (mst92 n i) hm
        · rw [if_neg hm, if_neg hk] at h
          simpa using h
/-- Nothing, or a plus sign at its front. -/
def Pl (r : List UInt8) : Prop := r = [] ∨ ∃ t, r = 43 :: t
theorem escF_inj : ∀ (l l' : List UInt8) (n i m j : Nat) (r r' : List UInt8), Pl r → Pl r' → escF n i l ++ r = escF m j l' ++ r' → l = l' ∧ r = r'
  | [], [], _, _, _, _, r, r', _, _, h => ⟨rfl, by simpa [escF] using h⟩
  | [], c :: t, n, i, m, j, r, r', hr, hr', h => by
    obtain ⟨d, u, e, hd⟩ := ec_head m j c
    simp only [escF, e, List.nil_append, List.cons_append] at h
    rcases hr with e' | ⟨q, e'⟩
    · rw [e'] at h; cases h
    · rw [e'] at h
      injection h with h _
      exact absurd h.symm hd
  | b :: t, [], n, i, m, j, r, r', hr, hr', h => by
    obtain ⟨d, u, e, hd⟩ := ec_head n i b
    simp only [escF, e, List.nil_append, List.cons_append] at h
    rcases hr' with e' | ⟨q, e'⟩
    · rw [e'] at h; cases h
    · rw [e'] at h
      injection h with h _
      exact absurd h hd
  | b :: t, c :: t', n, i, m, j, r, r', hr, hr', h => by
    simp only [escF, List.append_assoc] at h
    obtain ⟨h1, h2⟩ := ec_inj h
    obtain ⟨h3, h4⟩ := escF_inj t t' n (i + 1) m (j + 1) r r' hr hr' h2
    exact ⟨by rw [h1, h3], h4⟩
/-- A pair's text; a part's. -/
def pt1 (p : PR) : List UInt8 := p.1 ++ 61 :: escV p.2
def ptT (l : List PR) : List UInt8 := l.flatMap fun p => 43 :: pt1 p
def ptx : List PR → List UInt8
  | [] => []
  | p :: t => pt1 p ++ ptT t
theorem ptT_pl (l : List PR) : Pl (ptT l) := by
  cases l with
  | nil => exact Or.inl rfl
  | cons p t => exact Or.inr ⟨pt1 p ++ ptT t, by simp [ptT]⟩
theorem ptx_snoc (l : List PR) (p : PR) : ptx (l ++ [p]) = ptx l ++ (if l = [] then pt1 p else 43 :: pt1 p) := by
  cases l with
  | nil => simp [ptx, ptT]
  | cons a t => simp [ptx, ptT]
theorem split61 : ∀ (a b : List UInt8) (X Y : List UInt8), 61 ∉ a → 61 ∉ b → a ++ 61 :: X = b ++ 61 :: Y → a = b ∧ X = Y
  | [], [], X, Y, _, _, h => ⟨rfl, by simpa using h⟩
  | [], c :: b, X, Y, _, hb, h => by
    simp at h
    exact absurd (by rw [h.1]; simp) hb
  | c :: a, [], X, Y, ha, _, h => by
    simp at h
    exact absurd (by rw [h.1]; simp) ha
  | c :: a, d :: b, X, Y, ha, hb, h => by
    simp only [List.cons_append] at h
    injection h with h1 h2
    obtain ⟨h3, h4⟩ := split61 a b X Y (fun q => ha (by simp [q])) (fun q => hb (by simp [q])) h2
    exact ⟨by rw [h1, h3], h4⟩
theorem pt_inj : ∀ (t t' : List PR) (p q : PR), 61 ∉ p.1 → 61 ∉ q.1 → (∀ x ∈ t, 61 ∉ x.1) → (∀ x ∈ t', 61 ∉ x.1) → pt1 p ++ ptT t = pt1 q ++ ptT t' → p = q ∧ t = t'
  | t, t', p, q, hp, hq, ht, ht', h => by
    unfold pt1 at h
    simp only [List.append_assoc, List.cons_append] at h
    obtain ⟨h1, h2⟩ := split61 _ _ _ _ hp hq h
    obtain ⟨h3, h4⟩ := escF_inj p.2 q.2 p.2.length 0 q.2.length 0 (ptT t) (ptT t') (ptT_pl t) (ptT_pl t') h2
    refine ⟨Prod.ext h1 h3, ?_⟩
    match t, t' with
    | [], [] => rfl
    | [], c :: t' => simp [ptT] at h4
    | c :: t, [] => simp [ptT] at h4
    | c :: t, d :: t' =>
      have h5 : pt1 c ++ ptT t = pt1 d ++ ptT t' := by simpa [ptT] using h4
      obtain ⟨h6, h7⟩ := pt_inj t t' c d (ht c (by simp)) (ht' d (by simp)) (fun x hx => ht x (by simp [hx])) (fun x hx => ht' x (by simp [hx])) h5
      rw [h6, h7]
theorem ptx_inj (l l' : List PR) (h : ∀ x ∈ l, 61 ∉ x.1) (h' : ∀ x ∈ l', 61 ∉ x.1) (e : ptx l = ptx l') : l = l' := by
  match l, l' with
  | [], [] => rfl
  | [], c :: t => simp [ptx, pt1] at e
  | c :: t, [] => simp [ptx, pt1] at e
  | c :: t, d :: t' =>
    obtain ⟨h6, h7⟩ := pt_inj t t' c d (h c (by simp)) (h' d (by simp)) (fun x hx => h x (by simp [hx])) (fun x hx => h' x (by simp [hx])) e
    rw [h6, h7]

/-- Is it a type; its canonical one. -/
def tyR (s : List UInt8) : ByteArray × Int × Nat := parsT (S (fold s))
def tyOk (s : List UInt8) : Bool := decide ((tyR s).2.1 = 0)
def tyC (s : List UInt8) : List UInt8 := (tyR s).1.data.toList
theorem tyR_er (s : List UInt8) : (tyR s).2.1 = if tyOk s = true then 0 else 40 := by
  unfold tyOk tyR parsT
  split <;> simp
/-- A byte of a type. -/
def Gd (x : UInt8) : Prop := isK x = true ∨ x.toNat = 46
theorem Gd.ne {x : UInt8} (h : Gd x) : x ≠ 61 := fun e => by
  subst e
  rcases h with h | h
  · revert h; decide
  · revert h; decide
theorem isD_K (x : UInt8) (h : isD x = true) : isK x = true := by unfold isK; rw [h]; simp
theorem run_good (p : UInt8 → Bool) (hp : ∀ x, p x = true → Gd x) (l : List UInt8) (e : Nat) (h : ∀ x ∈ l.take e, Gd x) : ∀ x ∈ l.take (runE p l e), Gd x := by
  intro x hx
  unfold runE at hx
  rw [List.take_add, List.mem_append] at hx
  rcases hx with hx | hx
  · exact h x hx
  · have e1 : (l.drop e).take ((l.drop e).takeWhile p).length = (l.drop e).takeWhile p := by
      generalize l.drop e = k
      induction k with
      | nil => rfl
      | cons a k ih =>
        rw [List.takeWhile_cons]
        split
        · rw [List.length_cons, List.take_succ_cons, ih]
        · rfl
    rw [e1] at hx
    have hp' : ∀ (k : List UInt8) (y : UInt8), y ∈ k.takeWhile p → p y = true := fun k => by
      induction k with
      | nil => intro y hy; simp at hy
      | cons a k ih =>
        intro y hy
        rw [List.takeWhile_cons] at hy
        split at hy
        · rename_i ha
          rcases List.mem_cons.1 hy with e | e
          · rw [e]; exact ha
          · exact ih y e
        · simp at hy
    exact hp x (hp' _ _ hx)
theorem take_one (l : List UInt8) (e : Nat) (P : UInt8 → Prop) (h : ∀ x ∈ l.take e, P x) (h1 : e < l.length → P (l.getD e 0)) : ∀ x ∈ l.take (e + 1), P x := by
  intro x hx
  rw [List.take_add, List.mem_append] at hx
  rcases hx with hx | hx
  · exact h x hx
  · rcases Nat.lt_or_ge e l.length with he | he
    · have e1 : (l.drop e).take 1 = [l.getD e 0] := by
        rw [List.drop_eq_getElem_cons he, List.take_succ_cons, List.take_zero, List.getD_eq_getElem?_getD, List.getElem?_eq_getElem he]
        rfl
      rw [e1, List.mem_singleton] at hx
      rw [hx]
      exact h1 he
    · rw [List.drop_of_length_le he] at hx
      simp at hx
theorem num_good (l : List UInt8) (e : Nat) (h : ∀ x ∈ l.take e, Gd x) : ∀ x ∈ l.take (numE l e), Gd x := by
  unfold numE
  split
  · rename_i hc
    refine take_one l e Gd h (fun _ => Or.inl ?_)
    have : (l.getD e 0).toNat = 48 := hc.1
    unfold isK isL isD
    rw [this]
    decide
  · exact run_good isD (fun x hx => Or.inl (isD_K x hx)) l e h
theorem id_good (l : List UInt8) : ∀ (n m e : Nat), (∀ x ∈ l.take e, Gd x) → ∀ x ∈ l.take (idE l n m e).1, Gd x
  | 0, m, e, h => h
  | n + 1, m, e, h => by
    unfold idE
    split
    · exact h
    · split
      · exact num_good l e h
      · rename_i hn
        refine id_good l n (m + 1) (numE l e + 1) (take_one l _ Gd (num_good l e h) (fun _ => Or.inr ?_))
        by_cases hq : (l.getD (numE l e) 0).toNat = 46
        · exact hq
        · exact absurd (Or.inr hq) hn
theorem typ_good (l : List UInt8) : ∀ x ∈ l.take (typE l).1, Gd x := by
  unfold typE
  split
  · rename_i hc
    refine run_good isK (fun x hx => Or.inl hx) l 1 (take_one l 0 Gd (fun x hx => by simp at hx) (fun _ => Or.inl ?_))
    unfold isK
    rw [hc.2]
    rfl
  · exact id_good l _ _ _ (fun x hx => by simp at hx)
theorem nm61 : ∀ i : Fin 62, ∀ b ∈ (rowL i).1.data.toList, b ≠ 61 := by decide +kernel
/-- No canonical type holds an equals sign. -/
theorem tyC61 (s : List UInt8) (h : tyOk s = true) : 61 ∉ tyC s := by
  unfold tyOk at h
  have h := of_decide_eq_true h
  unfold tyC tyR parsT at *
  split at h
  · rename_i hc
    rw [if_pos hc]
    show 61 ∉ (canN (S (fold s))).data.toList
    unfold canN
    split
    · intro hm
      have hk := typ_good (S (fold s)).data.toList
      rw [List.take_of_length_le (by rw [size_l]; omega)] at hk
      exact (hk _ hm).ne rfl
    · rename_i i _
      exact fun hm => nm61 i _ hm rfl
  · simp at h
end Ke
end Go.Proofs.YtfmhcgadgakbhaaGreatDoor

namespace Go.Proofs.YtfmhcgadgakbhaaGreatDoor
namespace Ke
open TextMath (fold lo normal check)
open Go.Sort Go.Lib
set_option linter.unusedVariables false

def cfP (x y : PR) : Int := compareBytes x.1 y.1
theorem cmp_lt : ∀ a b : List UInt8, compareBytes a b < 0 ↔ a < b
  | [], [] => by simp [compareBytes]
  | [], b :: k => by simp [compareBytes]
  | a :: l, [] => by simp [compareBytes]
  | a :: l, b :: k => by
    rw [List.cons_lt_cons_iff, ← cmp_lt l k, show compareBytes (a :: l) (b :: k) = (if a < b then (-1 : Int) else if b < a then 1 else compareBytes l k) from by rw [compareBytes]]
    by_cases h1 : a < b
    · simp [h1]
    · by_cases h2 : b < a
      · have hne : a ≠ b := fun e => by subst e; exact absurd h2 (UInt8.lt_irrefl _)
        simp [h1, h2, hne]
      · have he : a = b := UInt8.le_antisymm (UInt8.not_lt.1 h2) (UInt8.not_lt.1 h1)
        subst he
        simp [h1]
theorem lt_iff (x y : PR) : ltOf cfP x y = true ↔ x.1 < y.1 := by
  unfold ltOf cfP
  rw [decide_eq_true_iff, cmp_lt]
theorem lt_no (x y : PR) : ltOf cfP x y = false ↔ y.1 ≤ x.1 := by
  rw [← Bool.not_eq_true, lt_iff]
  exact Iff.rfl
theorem swo : SWO (ltOf cfP) where
  irrefl := fun x => by rw [lt_no]; exact List.le_refl _
  trans := fun x y z h1 h2 => by rw [lt_iff] at *; exact List.lt_trans h1 h2
  ntrans := fun x y z h1 h2 => by rw [lt_no] at *; exact List.le_trans h2 h1
/-- The pairs by their types. -/
def srtP (l : List PR) : List PR := (insertionSort (ltOf cfP) l.toArray 0 l.toArray.size).toList
theorem srt_holds (l : List PR) : (srtP l).Perm l ∧ (srtP l).length = l.length ∧ (srtP l).Pairwise fun x y => x.1 ≤ y.1 := by
  obtain ⟨⟨h1, h2, h3⟩, h4⟩ := insertionSort_holds (lt := ltOf cfP) swo l.toArray 0 l.toArray.size (Nat.zero_le _) (Nat.le_refl _)
  unfold srtP
  generalize insertionSort (ltOf cfP) l.toArray 0 l.toArray.size = D at *
  have e : D.extract 0 l.toArray.size = D := by
    rw [← h1]
    simp
  rw [e] at h3
  have e2 : l.toArray.extract 0 l.toArray.size = l.toArray := by simp
  rw [e2] at h3
  refine ⟨h3, by simpa using h1, ?_⟩
  rw [List.pairwise_iff_getElem]
  intro i j hi hj hij
  have hi' : i < D.size := by simpa using hi
  have hj' : j < D.size := by simpa using hj
  have hq := h4 i j (Nat.zero_le _) hij (by rw [← h1]; exact hj')
  rw [lt_no] at hq
  rw [getElem!_pos D i hi', getElem!_pos D j hj'] at hq
  simpa using hq
/-- Two lists in order, with no type twice, of the same pairs are one. -/
theorem sorted_eq : ∀ (l k : List PR), (l.map Prod.fst).Nodup → (l.Pairwise fun x y => x.1 ≤ y.1) → (k.Pairwise fun x y => x.1 ≤ y.1) → l.Perm k → l = k
  | [], k, _, _, _, hp => (List.nil_perm.1 hp).symm
  | a :: l, [], _, _, _, hp => by simp at hp
  | a :: l, b :: k, hn, hl, hk, hp => by
    have hnk : ((b :: k).map Prod.fst).Nodup := (hp.map Prod.fst).nodup_iff.1 hn
    have hab : a = b := by
      have ha : a ∈ b :: k := hp.subset (by simp)
      have hb : b ∈ a :: l := hp.symm.subset (by simp)
      rcases List.mem_cons.1 ha with e | e
      · exact e
      · rcases List.mem_cons.1 hb with e' | e'
        · exact e'.symm
        · have h1 : a.1 ≤ b.1 := (List.pairwise_cons.1 hl).1 b e'
          have h2 : b.1 ≤ a.1 := (List.pairwise_cons.1 hk).1 a e
          have h3 : a.1 = b.1 := List.le_antisymm h1 h2
          rw [List.map_cons, List.nodup_cons] at hn
          exact absurd (by rw [h3]; exact List.mem_map_of_mem e') hn.1
    subst hab
    rw [sorted_eq l k (by rw [List.map_cons, List.nodup_cons] at hn; exact hn.2) (List.pairwise_cons.1 hl).2 (List.pairwise_cons.1 hk).2 (List.Perm.cons_inv hp)]
theorem srt_eq (l k : List PR) (hn : (l.map Prod.fst).Nodup) (hp : l.Perm k) : srtP l = srtP k := by
  obtain ⟨h1, _, h2⟩ := srt_holds l
  obtain ⟨k1, _, k2⟩ := srt_holds k
  exact sorted_eq _ _ ((h1.map Prod.fst).nodup_iff.2 hn) h2 k2 (h1.trans (hp.trans k1.symm))

def utf (v : List UInt8) : Bool := (check v).1
/-- A pair by its canonical type and its normal value. -/
def cn (p : PR) : PR := (tyC p.1, normal p.2)
/-- The pair at the place i is one that a name may have. -/
def OkI (l : List PR) (i : Nat) : Prop := ∃ h : i < l.length, tyOk l[i].1 = true ∧ tyC l[i].1 ∉ (l.take i).map (fun p => tyC p.1) ∧ utf l[i].2 = true
def OkP (l : List PR) : Prop := 1 ≤ l.length ∧ l.length ≤ 8 ∧ ∀ i, i < l.length → OkI l i
def OkD (L : List (List PR)) : Prop := L.length ≤ 64 ∧ ∀ r ∈ L, OkP r
def keyTx (l : List PR) : List UInt8 := ptx (srtP (l.map cn))
def keys (L : List (List PR)) : List (List UInt8) := (L.map keyTx).reverse
theorem okP_nodup {l : List PR} (h : OkP l) : ((l.map cn).map Prod.fst).Nodup := by
  rw [List.map_map]
  have e : (Prod.fst ∘ cn) = fun p : PR => tyC p.1 := rfl
  rw [e]
  unfold List.Nodup
  rw [List.pairwise_iff_getElem]
  intro i j hi hj hij
  have hj' : j < l.length := by simpa using hj
  obtain ⟨_, _, h2, _⟩ := h.2.2 j hj'
  intro he
  apply h2
  rw [List.getElem_map, List.getElem_map] at he
  rw [← he]
  refine List.mem_map.2 ⟨l[i], ?_, rfl⟩
  rw [List.mem_take_iff_getElem]
  exact ⟨i, by omega, rfl⟩
theorem okP_61 {l : List PR} (h : OkP l) : ∀ x ∈ srtP (l.map cn), 61 ∉ x.1 := by
  intro x hx
  obtain ⟨p, hp, rfl⟩ := List.mem_map.1 ((srt_holds (l.map cn)).1.subset hx)
  obtain ⟨i, hi, rfl⟩ := List.getElem_of_mem hp
  obtain ⟨_, h1, _⟩ := h.2.2 i hi
  exact tyC61 _ h1
/-- What the law's own 'same' says. -/
def Alike (a b : List PR) : Prop := a.length = b.length ∧ ∀ p ∈ a, ∃ q ∈ b, cn q = cn p
/-- Lists of as many, the one without doubles and all of it in the other. -/
theorem perm_of_sub : ∀ (a b : List PR), a.Nodup → (∀ x ∈ a, x ∈ b) → a.length = b.length → a.Perm b
  | [], b, _, _, hl => by
    have := List.eq_nil_of_length_eq_zero hl.symm
    subst this
    exact List.Perm.refl _
  | x :: a, b, hn, hs, hl => by
    have hx : x ∈ b := hs x (by simp)
    obtain ⟨s, t, rfl⟩ := List.append_of_mem hx
    rw [List.nodup_cons] at hn
    have hp : a.Perm (s ++ t) := perm_of_sub a (s ++ t) hn.2 (fun y hy => by
      have h1 := hs y (by simp [hy])
      have hne : y ≠ x := fun e => hn.1 (by rw [← e]; exact hy)
      simp only [List.mem_append, List.mem_cons] at h1 ⊢
      rcases h1 with h1 | h1 | h1
      · exact Or.inl h1
      · exact absurd h1 hne
      · exact Or.inr h1) (by simp at hl ⊢; omega)
    exact (hp.cons x).trans List.perm_middle.symm
theorem nodup_of_fst {l : List PR} (h : (l.map Prod.fst).Nodup) : l.Nodup := by
  unfold List.Nodup at *
  rw [List.pairwise_map] at h
  exact h.imp (fun h e => h (by rw [e]))
/-- Keys are the same just where the parts are. -/
theorem key_same {a b : List PR} (ha : OkP a) (hb : OkP b) : keyTx a = keyTx b ↔ Alike a b := by
  constructor
  · intro e
    have h1 := ptx_inj _ _ (okP_61 ha) (okP_61 hb) e
    have p1 := (srt_holds (a.map cn)).1
    have p2 := (srt_holds (b.map cn)).1
    rw [h1] at p1
    have hp : (a.map cn).Perm (b.map cn) := p1.symm.trans p2
    refine ⟨by simpa using hp.length_eq, fun p hp' => ?_⟩
    have := hp.subset (List.mem_map_of_mem (f := cn) hp')
    obtain ⟨q, hq, e⟩ := List.mem_map.1 this
    exact ⟨q, hq, e⟩
  · rintro ⟨hl, hs⟩
    unfold keyTx
    rw [srt_eq (a.map cn) (b.map cn) (okP_nodup ha)]
    refine perm_of_sub _ _ (nodup_of_fst (okP_nodup ha)) (fun x hx => ?_) (by simpa using hl)
    obtain ⟨p, hp, rfl⟩ := List.mem_map.1 hx
    obtain ⟨q, hq, e⟩ := hs p hp
    rw [← e]
    exact List.mem_map_of_mem hq
end Ke
end Go.Proofs.YtfmhcgadgakbhaaGreatDoor
