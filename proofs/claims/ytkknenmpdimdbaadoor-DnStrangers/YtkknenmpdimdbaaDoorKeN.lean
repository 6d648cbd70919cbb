import Derived.Test.YtkknenmpdimdbaaDoorKeM
namespace Go.Proofs.YtkknenmpdimdbaaDoor
namespace Ke
open TextMath (fold lo normal check)
open Go.Sort Go.Lib
set_option linter.unusedVariables false

def cfP (x y : PR) : Int := compareBytes x.1 y.1
theorem cmp_lt : ∀ a b : List UInt8, compareBytes a b < 0 ↔ a < b
  | [], [] => by simp [compareBytes]
  | [], b :: k => by simp [compareBytes]
  | a :: l, [] => by simp [compareBytes]
  | a :: l, b :: k => by
    rw [List.cons_lt_cons_iff, ← cmp_lt l k, show compareBytes (a :: l) (b :: k) = (if a < b then (-1 : Int) else if b < a then 1 else compareBytes l k) from by rw [compareBytes]]
    by_cases h1 : a < b
    · simp [h1]
    · by_cases h2 : b < a
      · have hne : a ≠ b := fun e => by subst e; exact absurd h2 (UInt8.lt_irrefl _)
        simp [h1, h2, hne]
      · have he : a = b := UInt8.le_antisymm (UInt8.not_lt.1 h2) (UInt8.not_lt.1 h1)
        subst he
        simp [h1]
theorem lt_iff (x y : PR) : ltOf cfP x y = true ↔ x.1 < y.1 := by
  unfold ltOf cfP
  rw [decide_eq_true_iff, cmp_lt]
theorem lt_no (x y : PR) : ltOf cfP x y = false ↔ y.1 ≤ x.1 := by
  rw [← Bool.not_eq_true, lt_iff]
  exact Iff.rfl
theorem swo : SWO (ltOf cfP) where
  irrefl := fun x => by rw [lt_no]; exact List.le_refl _
  trans := fun x y z h1 h2 => by rw [lt_iff] at *; exact List.lt_trans h1 h2
  ntrans := fun x y z h1 h2 => by rw [lt_no] at *; exact List.le_trans h2 h1
/-- The pairs by their types. -/
def srtP (l : List PR) : List PR := (insertionSort (ltOf cfP) l.toArray 0 l.toArray.size).toList
theorem srt_holds (l : List PR) : (srtP l).Perm l ∧ (srtP l).length = l.length ∧ (srtP l).Pairwise fun x y => x.1 ≤ y.1 := by
  obtain ⟨⟨h1, h2, h3⟩, h4⟩ := insertionSort_holds (lt := ltOf cfP) swo l.toArray 0 l.toArray.size (Nat.zero_le _) (Nat.le_refl _)
  unfold srtP
  generalize insertionSort (ltOf cfP) l.toArray 0 l.toArray.size = D at *
  have e : D.extract 0 l.toArray.size = D := by
    rw [← h1]
    simp
  rw [e] at h3
  have e2 : l.toArray.extract 0 l.toArray.size = l.toArray := by simp
  rw [e2] at h3
  refine ⟨h3, by simpa using h1, ?_⟩
  rw [List.pairwise_iff_getElem]
  intro i j hi hj hij
  have hi' : i < D.size := by simpa using hi
  have hj' : j < D.size := by simpa using hj
  have hq := h4 i j (Nat.zero_le _) hij (by rw [← h1]; exact hj')
  rw [lt_no] at hq
  rw [getElem!_pos D i hi', getElem!_pos D j hj'] at hq
  simpa using hq
/-- Two lists in order, with no type twice, of the same pairs are one. -/
theorem sorted_eq : ∀ (l k : List PR), (l.map Prod.fst).Nodup → (l.Pairwise fun x y => x.1 ≤ y.1) → (k.Pairwise fun x y => x.1 ≤ y.1) → l.Perm k → l = k
  | [], k, _, _, _, hp => (List.nil_perm.1 hp).symm
  | a :: l, [], _, _, _, hp => by simp at hp
  | a :: l, b :: k, hn, hl, hk, hp => by
    have hnk : ((b :: k).map Prod.fst).Nodup := (hp.map Prod.fst).nodup_iff.1 hn
    have hab : a = b := by
      have ha : a ∈ b :: k := hp.subset (by simp)
      have hb : b ∈ a :: l := hp.symm.subset (by simp)
      rcases List.mem_cons.1 ha with e | e
      · exact e
      · rcases List.mem_cons.1 hb with e' | e'
        · exact e'.symm
        · have h1 : a.1 ≤ b.1 := (List.pairwise_cons.1 hl).1 b e'
          have h2 : b.1 ≤ a.1 := (List.pairwise_cons.1 hk).1 a e
          have h3 : a.1 = b.1 := List.le_antisymm h1 h2
          rw [List.map_cons, List.nodup_cons] at hn
          exact absurd (by rw [h3]; exact List.mem_map_of_mem e') hn.1
    subst hab
    rw [sorted_eq l k (by rw [List.map_cons, List.nodup_cons] at hn; exact hn.2) (List.pairwise_cons.1 hl).2 (List.pairwise_cons.1 hk).2 (List.Perm.cons_inv hp)]
theorem srt_eq (l k : List PR) (hn : (l.map Prod.fst).Nodup) (hp : l.Perm k) : srtP l = srtP k := by
  obtain ⟨h1, _, h2⟩ := srt_holds l
  obtain ⟨k1, _, k2⟩ := srt_holds k
  exact sorted_eq _ _ ((h1.map Prod.fst).nodup_iff.2 hn) h2 k2 (h1.trans (hp.trans k1.symm))

def utf (v : List UInt8) : Bool := (check v).1
/-- A pair by its canonical type and its normal value. -/
def cn (p : PR) : PR := (tyC p.1, normal p.2)
/-- The pair at the place i is one that a name may have. -/
def OkI (l : List PR) (i : Nat) : Prop := ∃ h : i < l.length, tyOk l[i].1 = true ∧ tyC l[i].1 ∉ (l.take i).map (fun p => tyC p.1) ∧ utf l[i].2 = true
def OkP (l : List PR) : Prop := 1 ≤ l.length ∧ l.length ≤ 8 ∧ ∀ i, i < l.length → OkI l i
def OkD (L : List (List PR)) : Prop := L.length ≤ 64 ∧ ∀ r ∈ L, OkP r
def keyTx (l : List PR) : List UInt8 := ptx (srtP (l.map cn))
def keys (L : List (List PR)) : List (List UInt8) := (L.map keyTx).reverse
theorem okP_nodup {l : List PR} (h : OkP l) : ((l.map cn).map Prod.fst).Nodup := by
  rw [List.map_map]
  have e : (Prod.fst ∘ cn) = fun p : PR => tyC p.1 := rfl
  rw [e]
  unfold List.Nodup
  rw [List.pairwise_iff_getElem]
  intro i j hi hj hij
  have hj' : j < l.length := by simpa using hj
  obtain ⟨_, _, h2, _⟩ := h.2.2 j hj'
  intro he
  apply h2
  rw [List.getElem_map, List.getElem_map] at he
  rw [← he]
  refine List.mem_map.2 ⟨l[i], ?_, rfl⟩
  rw [List.mem_take_iff_getElem]
  exact ⟨i, by omega, rfl⟩
theorem okP_61 {l : List PR} (h : OkP l) : ∀ x ∈ srtP (l.map cn), 61 ∉ x.1 := by
  intro x hx
  obtain ⟨p, hp, rfl⟩ := List.mem_map.1 ((srt_holds (l.map cn)).1.subset hx)
  obtain ⟨i, hi, rfl⟩ := List.getElem_of_mem hp
  obtain ⟨_, h1, _⟩ := h.2.2 i hi
  exact tyC61 _ h1
/-- What the law's own 'same' says. -/
def Alike (a b : List PR) : Prop := a.length = b.length ∧ ∀ p ∈ a, ∃ q ∈ b, cn q = cn p
/-- Lists of as many, the one without doubles and all of it in the other. -/
theorem perm_of_sub : ∀ (a b : List PR), a.Nodup → (∀ x ∈ a, x ∈ b) → a.length = b.length → a.Perm b
  | [], b, _, _, hl => by
    have := List.eq_nil_of_length_eq_zero hl.symm
    subst this
    exact List.Perm.refl _
  | x :: a, b, hn, hs, hl => by
    have hx : x ∈ b := hs x (by simp)
    obtain ⟨s, t, rfl⟩ := List.append_of_mem hx
    rw [List.nodup_cons] at hn
    have hp : a.Perm (s ++ t) := perm_of_sub a (s ++ t) hn.2 (fun y hy => by
      have h1 := hs y (by simp [hy])
      have hne : y ≠ x := fun e => hn.1 (by rw [← e]; exact hy)
      simp only [List.mem_append, List.mem_cons] at h1 ⊢
      rcases h1 with h1 | h1 | h1
      · exact Or.inl h1
      · exact absurd h1 hne
      · exact Or.inr h1) (by simp at hl ⊢; omega)
    exact (hp.cons x).trans List.perm_middle.symm
theorem nodup_of_fst {l : List PR} (h : (l.map Prod.fst).Nodup) : l.Nodup := by
  unfold List.Nodup at *
  rw [List.pairwise_map] at h
  exact h.imp (fun h e => h (by rw [e]))
/-- Keys are the same just where the parts are. -/
theorem key_same {a b : List PR} (ha : OkP a) (hb : OkP b) : keyTx a = keyTx b ↔ Alike a b := by
  constructor
  · intro e
    have h1 := ptx_inj _ _ (okP_61 ha) (okP_61 hb) e
    have p1 := (srt_holds (a.map cn)).1
    have p2 := (srt_holds (b.map cn)).1
    rw [h1] at p1
    have hp : (a.map cn).Perm (b.map cn) := p1.symm.trans p2
    refine ⟨by simpa using hp.length_eq, fun p hp' => ?_⟩
    have := hp.subset (List.mem_map_of_mem (f := cn) hp')
    obtain ⟨q, hq, e⟩ := List.mem_map.1 this
    exact ⟨q, hq, e⟩
  · rintro ⟨hl, hs⟩
    unfold keyTx
    rw [srt_eq (a.map cn) (b.map cn) (okP_nodup ha)]
    refine perm_of_sub _ _ (nodup_of_fst (okP_nodup ha)) (fun x hx => ?_) (by simpa using hl)
    obtain ⟨p, hp, rfl⟩ := List.mem_map.1 hx
    obtain ⟨q, hq, e⟩ := hs p hp
    rw [← e]
    exact List.mem_map_of_mem hq
end Ke
end Go.Proofs.YtkknenmpdimdbaaDoor
