import Derived.Test.YteiikipldejeeaaDoorAtOpt
import Derived.Test.YteiikipldejeeaaDoorAtOrdS
import Derived.Test.YteiikipldejeeaaDoorAtSynD
namespace Go.Proofs.YteiikipldejeeaaDoor
open Go.RowKit
open TextMath (fold lo)
set_option linter.unusedVariables false

/-- The law's own table: first name, other name, identifier. -/
def k3L : List (List (List UInt8)) := [[[99, 110], [99, 111, 109, 109, 111, 110, 78, 97, 109, 101], [50, 46, 53, 46, 52, 46, 51]], [[115, 110], [115, 117, 114, 110, 97, 109, 101], [50, 46, 53, 46, 52, 46, 52]], [[110, 97, 109, 101], [110, 97, 109, 101], [50, 46, 53, 46, 52, 46, 52, 49]], [[115, 116, 114, 101, 101, 116], [115, 116, 114, 101, 101, 116, 65, 100, 100, 114, 101, 115, 115], [50, 46, 53, 46, 52, 46, 57]], [[99, 45, 111, 117], [67, 45, 79, 85], [50, 46, 53, 46, 52, 46, 49, 49, 46, 49]], [[100, 99], [100, 111, 109, 97, 105, 110, 67, 111, 109, 112, 111, 110, 101, 110, 116], [48, 46, 57, 46, 50, 51, 52, 50, 46, 49, 57, 50, 48, 48, 51, 48, 48, 46, 49, 48, 48, 46, 49, 46, 50, 53]], [[117, 105, 100], [117, 115, 101, 114, 105, 100], [48, 46, 57, 46, 50, 51, 52, 50, 46, 49, 57, 50, 48, 48, 51, 48, 48, 46, 49, 48, 48, 46, 49, 46, 49]], [[109, 97, 105, 108], [114, 102, 99, 56, 50, 50, 77, 97, 105, 108, 98, 111, 120], [48, 46, 57, 46, 50, 51, 52, 50, 46, 49, 57, 50, 48, 48, 51, 48, 48, 46, 49, 48, 48, 46, 49, 46, 51]], [[111, 98, 106, 101, 99, 116, 99, 108, 97, 115, 115], [111, 98, 106, 101, 99, 116, 67, 108, 97, 115, 115], [50, 46, 53, 46, 52, 46, 48]], [[99, 114, 101, 97, 116, 101, 116, 105, 109, 101, 115, 116, 97, 109, 112], [99, 114, 101, 97, 116, 101, 84, 105, 109, 101, 115, 116, 97, 109, 112], [50, 46, 53, 46, 49, 56, 46, 49]]]
def kn (k c : Nat) : List UInt8 := (k3L.getD k []).getD c []
def kr (k : Nat) : Nat := [4, 5, 2, 10, 39, 46, 40, 41, 0, 56].getD k 0
theorem kr_lt : ∀ k : Fin 10, kr k.val < 62 := by decide +kernel
theorem kn_hit : ∀ k : Fin 10, ∀ c : Fin 3, hit (S (fold (kn k.val c.val))) ⟨kr k.val, kr_lt k⟩ = true := by decide +kernel
theorem kn_typ : ∀ k : Fin 10, ∀ c : Fin 3, typE (fold (kn k.val c.val)) = ((fold (kn k.val c.val)).length, true) := by decide +kernel
theorem kn_len : ∀ k : Fin 10, ∀ c : Fin 3, (kn k.val c.val).length ≤ 26 := by decide +kernel
theorem kn_nm : ∀ k : Fin 10, kn k.val 0 = nmN (kr k.val) ∧ (rowL ⟨kr k.val, kr_lt k⟩).1 = S (kn k.val 0) ∧ (rowL ⟨kr k.val, kr_lt k⟩).2.2 = S (kn k.val 2) := by decide +kernel

/-- A letter made large. -/
def up1 (c : UInt8) : UInt8 := if 97 ≤ c.toNat ∧ c.toNat ≤ 122 then c - 32 else c
def trn (u : Nat → Bool) (l : List UInt8) : List UInt8 := l.mapIdx fun i c => if u i = true then up1 c else c
theorem lo_up (c : UInt8) : lo (up1 c) = lo c := by
  have key0 : (List.range 256).all (fun n => decide (lo (up1 (UInt8.ofNat n)) = lo (UInt8.ofNat n))) = true := by decide +kernel
  have hk := List.all_eq_true.1 key0 c.toNat (List.mem_range.2 (UInt8.toNat_lt c))
  rw [UInt8.ofNat_toNat] at hk
  simpa using hk
theorem up_big (c : UInt8) (h1 : (97 : Int) ≤ c.toNat) (h2 : (c.toNat : Int) ≤ 122) : ((up1 c).toNat : Int) = c.toNat - 32 := by
  have key0 : (List.range 256).all (fun n => !decide (97 ≤ n ∧ n ≤ 122) || decide ((up1 (UInt8.ofNat n)).toNat + 32 = n)) = true := by decide +kernel
  have hk := List.all_eq_true.1 key0 c.toNat (List.mem_range.2 (UInt8.toNat_lt c))
  rw [UInt8.ofNat_toNat, decide_eq_true (show 97 ≤ c.toNat ∧ c.toNat ≤ 122 by omega)] at hk
  have : (up1 c).toNat + 32 = c.toNat := by simpa using hk
  omega
theorem up_small (c : UInt8) (h : ¬ ((97 : Int) ≤ c.toNat ∧ (c.toNat : Int) ≤ 122)) : up1 c = c := by
  unfold up1; rw [if_neg (by omega)]
theorem trn_len (u : Nat → Bool) (l : List UInt8) : (trn u l).length = l.length := by simp [trn]
theorem trn_get (u : Nat → Bool) (l : List UInt8) (k : Nat) (h : k < (trn u l).length) : (trn u l)[k] = if u k = true then up1 (l[k]'(by rw [trn_len] at h; exact h)) else l[k]'(by rw [trn_len] at h; exact h) := by
  simp [trn]
theorem trn_fold (u : Nat → Bool) (l : List UInt8) : fold (trn u l) = fold l := by
  unfold fold
  apply List.ext_getElem
  · simp [trn_len]
  · intro i h1 h2
    rw [List.getElem_map, List.getElem_map, trn_get]
    split
    · exact lo_up _
    · rfl
/-- The one list up to k, the other behind it. -/
def mixL (A l : List UInt8) (k : Nat) : List UInt8 := A.take k ++ l.drop k
theorem mix_len (A l : List UInt8) (k : Nat) (hA : A.length = l.length) (h : k ≤ l.length) : (mixL A l k).length = l.length := by unfold mixL; simp; omega
theorem mix_get (A l : List UInt8) (k : Nat) (hA : A.length = l.length) (h : k < l.length) (hh : k < (mixL A l k).length) : (mixL A l k)[k] = l[k] := by
  have e : (A.take k).length = k := by simp; omega
  have h2 : (A.take k ++ l.drop k)[k]? = some l[k] := by
    rw [List.getElem?_append_right (by omega), e, Nat.sub_self, List.getElem?_drop]
    simp [h]
  have h3 : (mixL A l k)[k]? = some l[k] := h2
  rw [List.getElem?_eq_getElem hh] at h3
  exact Option.some.inj h3
theorem mix_set (A l : List UInt8) (k : Nat) (hA : A.length = l.length) (h : k < l.length) : (mixL A l k).set k (A[k]'(by omega)) = mixL A l (k + 1) := by
  unfold mixL
  rw [List.take_succ_eq_append_getElem (by omega : k < A.length), List.set_append, if_neg (by simp; omega)]
  have e : k - (A.take k).length = 0 := by simp; omega
  rw [e, List.drop_eq_getElem_cons h]
  simp only [List.set_cons_zero, List.append_assoc, List.cons_append, List.nil_append]
theorem mix_keep (A l : List UInt8) (k : Nat) (hA : A.length = l.length) (h : k < l.length) (e : A[k]'(by omega) = l[k]) : mixL A l (k + 1) = mixL A l k := by
  unfold mixL
  rw [List.take_succ_eq_append_getElem (by omega : k < A.length), List.drop_eq_getElem_cons h, e]
  simp
theorem mix_end (A l : List UInt8) (k : Nat) (hA : A.length = l.length) (h : l.length ≤ k) : mixL A l k = A := by
  unfold mixL
  rw [List.take_of_length_le (by omega), List.drop_eq_nil_of_le h, List.append_nil]

/-- A spelling of the table's row k with the options ys (folded). -/
def Sp (k : Nat) (ys : List (List UInt8)) (f : ByteArray) : Prop := desc f = (ys, f.size, true) ∧ (canN (typD f)).data.toList = kn k 0 ∧ lin (typD f) = lr (kr k) ∧ synN (typD f) = SYN.getD (kr k) 0
theorem sp_row (k c : Nat) (hk : k < 10) (hc : c < 3) : rowOf (S (fold (kn k c))) = some ⟨kr k, kr_lt ⟨k, hk⟩⟩ := rowOf_hit _ _ (kn_hit ⟨k, hk⟩ ⟨c, hc⟩)
theorem sp_of (k c : Nat) (hk : k < 10) (hc : c < 3) (ys : List (List UInt8)) (hz : ∀ z ∈ ys, z ≠ [] ∧ ∀ b ∈ z, isK b = true) (T : List UInt8) (hT : fold T = fold (kn k c) ++ semis ys) : Sp k ys (S (fold T)) := by
  obtain ⟨h1, h2⟩ := desc_semis (fold (kn k c)) ys (kn_typ ⟨k, hk⟩ ⟨c, hc⟩) hz
  have hr := sp_row k c hk hc
  rw [hT]
  unfold Sp
  rw [h2]
  obtain ⟨g1, g2⟩ := lin_row _ _ hr
  refine ⟨h1, ?_, g1, ?_⟩
  · rw [g2]; exact (kn_nm ⟨k, hk⟩).1.symm
  · unfold synN; rw [hr]
theorem sp_cov {k : Nat} (hk : k < 10) {ys zs : List (List UInt8)} {f g : ByteArray} (hf : Sp k ys f) (hg : Sp k zs g) (h : ∀ z ∈ ys, z ∈ zs) : covB f g = true := by
  rw [cov_iff, hf.1, hg.1, hf.2.1, hg.2.2.1]
  refine ⟨rfl, rfl, h, ?_⟩
  rw [(kn_nm ⟨k, hk⟩).1]
  unfold lr
  simp
theorem sp_syn {k : Nat} {ys : List (List UInt8)} {f : ByteArray} (hf : Sp k ys f) : synD f = SYN.getD (kr k) 0 := by
  unfold synD
  rw [hf.1, if_pos rfl, hf.2.2.2]
theorem sp_can {k : Nat} {ys zs : List (List UInt8)} {f g : ByteArray} (hf : Sp k ys f) (hg : Sp k zs g) (h : ∀ z, z ∈ ys ↔ z ∈ zs) {x y : List UInt8} (hx : CanIs f x) (hy : CanIs g y) : x = y := by
  rw [can_eq f g x y hx hy, hf.1, hg.1, hf.2.1, hg.2.1]
  exact ⟨rfl, h⟩
theorem sp_pre {k : Nat} {ys : List (List UInt8)} {f : ByteArray} (hf : Sp k ys f) {x : List UInt8} (hx : CanIs f x) : ∃ r, x = kn k 0 ++ r := by
  obtain ⟨L, _, _, e⟩ := hx
  exact ⟨_, by rw [e, hf.2.1]⟩
/-- The options there: each as it is and turned. -/
def two (u : Nat → Bool) (os : List (List UInt8)) : List (List UInt8) := os.flatMap fun o => [o, trn u o]
theorem two_snoc (u : Nat → Bool) (os : List (List UInt8)) (o : List UInt8) : semis (two u (os ++ [o])) = semis (two u os) ++ 59 :: (o ++ 59 :: trn u o) := by
  simp [two, semis, List.flatMap_append]
theorem two_mem (u : Nat → Bool) (os : List (List UInt8)) (z : List UInt8) : z ∈ (two u os).map fold ↔ z ∈ os.map fold := by
  simp only [two, List.mem_map, List.mem_flatMap, List.mem_cons, List.not_mem_nil, or_false]
  constructor
  · rintro ⟨a, ⟨o, ho, rfl | rfl⟩, rfl⟩
    · exact ⟨a, ho, rfl⟩
    · exact ⟨o, ho, (trn_fold u o).symm⟩
  · rintro ⟨o, ho, rfl⟩
    exact ⟨o, ⟨o, ho, Or.inl rfl⟩, rfl⟩
theorem back_snoc (os : List (List UInt8)) (o : List UInt8) : semis ((os ++ [o]).reverse) = 59 :: (o ++ semis os.reverse) := by
  rw [List.reverse_append]
  simp [semis]
theorem sp_there (u : Nat → Bool) (k : Nat) (hk : k < 10) (os : List (List UInt8)) (hz : ∀ o ∈ os, fold o ≠ [] ∧ ∀ b ∈ fold o, isK b = true) : Sp k ((two u os).map fold) (S (fold (kn k 0 ++ semis (two u os)))) :=
  sp_of k 0 hk (by omega) _ (fun z hz' => by
    obtain ⟨o, ho, rfl⟩ := List.mem_map.1 ((two_mem u os z).1 hz')
    exact hz o ho) _ (by rw [fold_app, fold_semis])
theorem sp_back (u : Nat → Bool) (k c : Nat) (hk : k < 10) (hc : c < 3) (os : List (List UInt8)) (hz : ∀ o ∈ os, fold o ≠ [] ∧ ∀ b ∈ fold o, isK b = true) : Sp k (os.reverse.map fold) (S (fold (trn u (kn k c) ++ semis os.reverse))) :=
  sp_of k c hk hc _ (fun z hz' => by
    obtain ⟨o, ho, rfl⟩ := List.mem_map.1 hz'
    exact hz o (List.mem_reverse.1 ho)) _ (by rw [fold_app, fold_semis, trn_fold])
theorem both_mem (u : Nat → Bool) (os : List (List UInt8)) (z : List UInt8) : z ∈ (two u os).map fold ↔ z ∈ os.reverse.map fold := by
  rw [two_mem, List.map_reverse, List.mem_reverse]
end Go.Proofs.YteiikipldejeeaaDoor
