import Derived.Lib.SlicesCompact
import Derived.WalkKit
namespace Go.Proofs.Ythpfnajgbocpnaa
namespace SgMath
open Go.Lib

theorem less_iff : ∀ x y : List UInt8, Op.bytesLess x y = true ↔ x < y
  | _, [] => by simp [Op.bytesLess]
  | [], b :: y => by simp [Op.bytesLess]
  | a :: x, b :: y => by
    rw [List.cons_lt_cons_iff]
    unfold Op.bytesLess
    rw [Bool.or_eq_true, Bool.and_eq_true, decide_eq_true_iff, beq_iff_eq, less_iff x y]
theorem ltT {x y z : List UInt8} (h1 : x < y) (h2 : y < z) : x < z := List.lt_trans h1 h2
theorem ltI (x : List UInt8) : ¬ x < x := List.lt_irrefl x
theorem leA {x y : List UInt8} (h1 : ¬ y < x) (h2 : ¬ x < y) : x = y := List.le_antisymm h1 h2
theorem leL {x y : List UInt8} (h : x ≤ y) (hn : x ≠ y) : x < y := by
  rcases Classical.em (x < y) with q | q
  · exact q
  · exact absurd (leA h q) hn
theorem leT {x y z : List UInt8} (h1 : x ≤ y) (h2 : y ≤ z) : x ≤ z := List.le_trans h1 h2
theorem leTot (x y : List UInt8) : x ≤ y ∨ y ≤ x := List.le_total x y
theorem ltLe {x y z : List UInt8} (h1 : x < y) (h2 : y ≤ z) : x < z := by
  rcases Classical.em (y = z) with q | q
  · rw [← q]; exact h1
  · exact ltT h1 (leL h2 q)
theorem leLt {x y z : List UInt8} (h1 : x ≤ y) (h2 : y < z) : x < z := by
  rcases Classical.em (x = y) with q | q
  · rw [q]; exact h2
  · exact ltT (leL h1 q) h2
/-- Rising. -/
abbrev Inc (l : List (List UInt8)) : Prop := l.Pairwise (· < ·)
/-- Sorted. -/
def srt (l : List (List UInt8)) : List (List UInt8) := l.mergeSort fun x y => decide (x ≤ y)
theorem srt_len (l : List (List UInt8)) : (srt l).length = l.length := by simp [srt]
open Classical in
/-- The list of the set of a list, as the program makes it. -/
def setOf (l : List (List UInt8)) : List (List UInt8) := if Inc l then l else Lib.compact (srt l)
theorem srt_pair (l : List (List UInt8)) : (srt l).Pairwise (· ≤ ·) := by
  have h := List.pairwise_mergeSort (le := fun x y : List UInt8 => decide (x ≤ y)) (by intro a b c h1 h2; exact decide_eq_true (leT (of_decide_eq_true h1) (of_decide_eq_true h2))) (by intro a b; rw [Bool.or_eq_true]; exact (leTot a b).imp decide_eq_true decide_eq_true) l
  exact h.imp (fun h => of_decide_eq_true h)
theorem get_bang (zs : List (List UInt8)) (j : Nat) (hj : j < zs.length) : zs.toArray[j]! = zs[j] := by
  rw [getElem!_pos _ _ (by simpa using hj)]
  simp
theorem compact_inc (zs : List (List UInt8)) (h : zs.Pairwise (· ≤ ·)) : Inc (Lib.compact zs) := by
  unfold Lib.compact compactUpTo Inc
  rw [List.pairwise_map]
  have h0 : ((List.range zs.length).filter (keeps zs.toArray)).Pairwise (· < ·) := List.Pairwise.filter _ List.pairwise_lt_range
  refine List.Pairwise.imp_of_mem ?_ h0
  intro a b ha hb hab
  rw [List.mem_filter, List.mem_range] at ha hb
  have hk := hb.2
  unfold keeps at hk
  simp only [decide_eq_true_eq] at hk
  have hne : zs.toArray[b]! ≠ zs.toArray[b - 1]! := by
    rcases hk with hk | hk
    · omega
    · exact hk
  have hp := List.pairwise_iff_getElem.1 h
  rw [get_bang zs a ha.1, get_bang zs b hb.1]
  rw [get_bang zs b hb.1, get_bang zs (b - 1) (by omega)] at hne
  have h1 := hp (b - 1) b (by omega) hb.1 (by omega)
  have h2 : zs[a]'ha.1 ≤ zs[b - 1]'(by omega) := by
    by_cases e : a = b - 1
    · subst e; exact ltI _
    · exact hp a (b - 1) ha.1 (by omega) (by omega)
  exact leLt h2 (leL h1 (fun e => hne e.symm))
theorem compact_mem (zs : List (List UInt8)) (x : List UInt8) : x ∈ Lib.compact zs ↔ x ∈ zs := by
  unfold Lib.compact compactUpTo
  simp only [List.mem_map, List.mem_filter, List.mem_range]
  constructor
  · rintro ⟨j, ⟨hj, _⟩, rfl⟩
    rw [get_bang zs j hj]
    exact List.getElem_mem hj
  · intro hx
    obtain ⟨j, hj, rfl⟩ := List.getElem_of_mem hx
    have key : ∀ n j, j ≤ n → (hj : j < zs.length) → ∃ a, (a < zs.length ∧ keeps zs.toArray a = true) ∧ zs.toArray[a]! = zs[j] := by
      intro n
      induction n with
      | zero =>
        intro j hjn hj
        have : j = 0 := by omega
        subst this
        exact ⟨0, ⟨hj, keeps_lt_one _ 0 (by omega)⟩, get_bang zs 0 hj⟩
      | succ n ih =>
        intro j hjn hj
        by_cases h0 : j = 0
        · subst h0
          exact ⟨0, ⟨hj, keeps_lt_one _ 0 (by omega)⟩, get_bang zs 0 hj⟩
        · by_cases he : zs[j] = zs[j - 1]'(by omega)
          · obtain ⟨a, h1, h2⟩ := ih (j - 1) (by omega) (by omega)
            exact ⟨a, h1, by rw [h2, he]⟩
          · refine ⟨j, ⟨hj, keeps_pos ?_⟩, get_bang zs j hj⟩
            rw [get_bang zs j hj, get_bang zs (j - 1) (by omega)]
            exact he
    exact key j j (Nat.le_refl _) hj
theorem compact_len (zs : List (List UInt8)) : (Lib.compact zs).length ≤ zs.length := by
  unfold Lib.compact compactUpTo
  rw [List.length_map]
  exact Nat.le_trans (List.length_filter_le _ _) (by simp)
theorem setOf_inc (l : List (List UInt8)) : Inc (setOf l) := by
  unfold setOf
  by_cases h : Inc l
  · rw [if_pos h]; exact h
  · rw [if_neg h]; exact compact_inc _ (srt_pair l)
theorem setOf_mem (l : List (List UInt8)) (x : List UInt8) : x ∈ setOf l ↔ x ∈ l := by
  unfold setOf
  by_cases h : Inc l
  · rw [if_pos h]
  · rw [if_neg h, compact_mem]; exact List.mem_mergeSort
theorem setOf_len (l : List (List UInt8)) : (setOf l).length ≤ l.length := by
  unfold setOf
  by_cases h : Inc l
  · rw [if_pos h]; exact Nat.le_refl _
  · rw [if_neg h]
    have := compact_len (srt l)
    rw [srt_len] at this
    exact this
/-- Two rising lists of the same elements are one. -/
theorem inc_eq : ∀ (a b : List (List UInt8)), Inc a → Inc b → (∀ x, x ∈ a ↔ x ∈ b) → a = b
  | [], [], _, _, _ => rfl
  | [], y :: b, _, _, h => by have := (h y).2 (by simp); simp at this
  | x :: a, [], _, _, h => by have := (h x).1 (by simp); simp at this
  | x :: a, y :: b, ha, hb, h => by
    have ha' := List.pairwise_cons.1 ha
    have hb' := List.pairwise_cons.1 hb
    have hxy : x = y := by
      have h1 := (h x).1 (by simp)
      have h2 := (h y).2 (by simp)
      rcases List.mem_cons.1 h1 with h1 | h1
      · exact h1
      · rcases List.mem_cons.1 h2 with h2 | h2
        · exact h2.symm
        · exact absurd (ltT (ha'.1 y h2) (hb'.1 x h1)) (ltI _)
    subst hxy
    congr 1
    refine inc_eq a b ha'.2 hb'.2 fun z => ?_
    constructor
    · intro hz
      have hlt := ha'.1 z hz
      rcases List.mem_cons.1 ((h z).1 (List.mem_cons_of_mem _ hz)) with e | e
      · rw [e] at hlt; exact absurd hlt (ltI _)
      · exact e
    · intro hz
      have hlt := hb'.1 z hz
      rcases List.mem_cons.1 ((h z).2 (List.mem_cons_of_mem _ hz)) with e | e
      · rw [e] at hlt; exact absurd hlt (ltI _)
      · exact e
theorem inc_step {l : List (List UInt8)} : Inc l ↔ ∀ i (h : i < l.length), 1 ≤ i → l[i - 1]'(by omega) < l[i] := by
  constructor
  · intro h i hi h1
    exact List.pairwise_iff_getElem.1 h (i - 1) i (by omega) hi (by omega)
  · intro h
    refine List.pairwise_iff_getElem.2 ?_
    have key : ∀ d i (hj : i + (d + 1) < l.length), l[i]'(by omega) < l[i + (d + 1)] := by
      intro d
      induction d with
      | zero => intro i hj; exact h (i + 1) hj (by omega)
      | succ d ih =>
        intro i hj
        have a := ih i (by omega)
        have b := h (i + (d + 1 + 1)) hj (by omega)
        have e : (i + (d + 1 + 1) - 1) = i + (d + 1) := by omega
        simp only [e] at b
        exact ltT a b
    intro i j hi hj hij
    have := key (j - i - 1) i (by omega)
    have e : i + (j - i - 1 + 1) = j := by omega
    simp only [e] at this
    exact this
theorem inc_snoc {o : List (List UInt8)} {x : List UInt8} (h : Inc o) (hx : ∀ z ∈ o, z < x) : Inc (o ++ [x]) := by
  unfold Inc
  rw [List.pairwise_append]
  exact ⟨h, List.pairwise_singleton _ _, fun z hz y hy => by rw [List.mem_singleton.1 hy]; exact hx z hz⟩
/-- A text's pieces of three. -/
def gm (s : List UInt8) (k : Nat) : List (List UInt8) := (List.range k).map fun i => (s.drop i).take 3
theorem gm_succ (s : List UInt8) (k : Nat) : gm s (k + 1) = gm s k ++ [(s.drop k).take 3] := by simp [gm, List.range_succ]
theorem gm_len (s : List UInt8) (k : Nat) : (gm s k).length = k := by simp [gm]
/-- How far a choosing of the least has come: L of the list are looked at, none of them above 'last' is less. -/
def above (last : Option (List UInt8)) (x : List UInt8) : Prop := ∀ y, last = some y → y < x
def Lst (l : List (List UInt8)) (i : Nat) (last : Option (List UInt8)) (best : Option (List UInt8)) : Prop :=
  (∀ b, best = some b → b ∈ l ∧ above last b) ∧ ∀ x ∈ l.take i, above last x → ∃ b, best = some b ∧ b ≤ x
theorem lst_start (l : List (List UInt8)) (last : Option (List UInt8)) : Lst l 0 last none := ⟨fun b h => (by cases h), fun x hx => (by simp at hx)⟩
theorem lst_take {l : List (List UInt8)} {i : Nat} {last best : Option (List UInt8)} (h : Lst l i last best) (hi : i < l.length) (h1 : above last l[i]) (h2 : ∀ b, best = some b → l[i] < b) : Lst l (i + 1) last (some l[i]) := by
  refine ⟨fun b e => by injection e with e; subst e; exact ⟨List.getElem_mem hi, h1⟩, fun x hx ha => ⟨l[i], rfl, ?_⟩⟩
  rw [List.take_succ_eq_append_getElem hi] at hx
  rcases List.mem_append.1 hx with hx | hx
  · obtain ⟨b, e, hb⟩ := h.2 x hx ha
    exact fun q => hb (ltT q (h2 b e))
  · rw [List.mem_singleton.1 hx]; exact ltI _
theorem lst_skip {l : List (List UInt8)} {i : Nat} {last best : Option (List UInt8)} (h : Lst l i last best) (hi : i < l.length) (h1 : ¬ above last l[i] ∨ ∃ b, best = some b ∧ ¬ l[i] < b) : Lst l (i + 1) last best := by
  refine ⟨h.1, fun x hx ha => ?_⟩
  rw [List.take_succ_eq_append_getElem hi] at hx
  rcases List.mem_append.1 hx with hx | hx
  · exact h.2 x hx ha
  · have e := List.mem_singleton.1 hx
    subst e
    rcases h1 with h1 | ⟨b, e, h1⟩
    · exact absurd ha h1
    · exact ⟨b, e, h1⟩
/-- What has been chosen: rising, of the list, and all of the list that is at most the last is in it. -/
def Chs (l : List (List UInt8)) (m : List (List UInt8)) : Prop := Inc m ∧ (∀ x ∈ m, x ∈ l) ∧ ∀ x ∈ l, x ∈ m ∨ above m.getLast? x
theorem last_of {m : List (List UInt8)} (h : Inc m) {y : List UInt8} (e : m.getLast? = some y) : ∀ x ∈ m, x ≤ y := by
  intro x hx
  obtain ⟨m', rfl⟩ := List.getLast?_eq_some_iff.1 e
  unfold Inc at h
  rw [List.pairwise_append] at h
  rcases List.mem_append.1 hx with hx | hx
  · exact fun q => ltI _ (ltT q (h.2.2 x hx y (List.mem_singleton.2 rfl)))
  · rw [List.mem_singleton.1 hx]; exact ltI _
theorem chs_start (l : List (List UInt8)) : Chs l [] := ⟨List.Pairwise.nil, fun x hx => by simp at hx, fun x _ => Or.inr fun y e => by cases e⟩
theorem chs_step {l m : List (List UInt8)} {b : List UInt8} (h : Chs l m) (hb : Lst l l.length m.getLast? (some b)) : Chs l (m ++ [b]) := by
  obtain ⟨h1, h2, h3⟩ := h
  obtain ⟨b1, b2⟩ := hb
  rw [List.take_length] at b2
  have hb := b1 b rfl
  refine ⟨inc_snoc h1 (fun z hz => ?_), fun x hx => ?_, fun x hx => ?_⟩
  · cases e : m.getLast? with
    | none => rw [List.getLast?_eq_none_iff] at e; rw [e] at hz; simp at hz
    | some y => exact leLt (last_of h1 e z hz) (hb.2 y e)
  · rcases List.mem_append.1 hx with hx | hx
    · exact h2 x hx
    · rw [List.mem_singleton.1 hx]; exact hb.1
  · rcases h3 x hx with q | q
    · exact Or.inl (List.mem_append_left _ q)
    · obtain ⟨b', e, hle⟩ := b2 x hx q
      injection e with e
      subst e
      rcases Classical.em (x = b) with e | e
      · exact Or.inl (List.mem_append_right _ (List.mem_singleton.2 e))
      · refine Or.inr fun y hy => ?_
        rw [List.getLast?_concat] at hy
        injection hy with hy
        subst hy
        exact leL hle (fun q => e q.symm)
theorem chs_none {l m : List (List UInt8)} (h : Chs l m) (hb : Lst l l.length m.getLast? none) : ∀ x, x ∈ m ↔ x ∈ l := fun x => by
  refine ⟨h.2.1 x, fun hx => ?_⟩
  rcases h.2.2 x hx with q | q
  · exact q
  · obtain ⟨b, e, _⟩ := hb.2 x (by rw [List.take_length]; exact hx) q
    cases e
theorem inc_nodup {m : List (List UInt8)} (h : Inc m) : m.Nodup := List.Pairwise.imp (S := fun a b => a ≠ b) (fun {a b} (hab : a < b) (e : a = b) => by subst e; exact ltI _ hab) h
theorem sub_len : ∀ (m l : List (List UInt8)), m.Nodup → (∀ x ∈ m, x ∈ l) → m.length ≤ l.length
  | [], _, _, _ => Nat.zero_le _
  | x :: m, l, hn, h => by
    have hx := h x List.mem_cons_self
    have hn' := List.nodup_cons.1 hn
    have h1 := sub_len m (l.erase x) hn'.2 (fun z hz => (List.mem_erase_of_ne (fun e => hn'.1 (by rw [← e]; exact hz))).2 (h z (List.mem_cons_of_mem _ hz)))
    rw [List.length_erase_of_mem hx] at h1
    have := List.length_pos_of_mem hx
    rw [List.length_cons]
    omega
/-- As many as there are: all of them. -/
theorem chs_full {l m : List (List UInt8)} (h : Chs l m) (hl : m.length = l.length) : ∀ x, x ∈ m ↔ x ∈ l := fun x => by
  refine ⟨h.2.1 x, fun hx => ?_⟩
  rcases Classical.em (x ∈ m) with q | q
  · exact q
  · have h1 := sub_len m (l.erase x) (inc_nodup h.1) (fun z hz => (List.mem_erase_of_ne (fun e => q (by rw [← e]; exact hz))).2 (h.2.1 z hz))
    rw [List.length_erase_of_mem hx] at h1
    have := List.length_pos_of_mem hx
    omega
theorem chs_len {l m : List (List UInt8)} (h : Chs l m) : m.length ≤ l.length := sub_len m l (inc_nodup h.1) h.2.1
end SgMath
end Go.Proofs.Ythpfnajgbocpnaa
