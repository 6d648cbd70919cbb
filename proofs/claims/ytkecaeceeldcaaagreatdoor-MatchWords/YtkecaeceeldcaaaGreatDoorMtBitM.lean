import Derived.Test.YtkecaeceeldcaaaGreatDoorBytes
import Derived.Lib.SlTrimSet
namespace Go.Proofs.YtkecaeceeldcaaaGreatDoor
namespace MtBitM

/-- Is a text of SynBits? As the program asks. -/
def ok (l : List UInt8) : Bool := Lib.hasPrefix l [39] && (Lib.hasSuffix (Lib.trimPrefix l [39]) [39, 66] && (Lib.trimLeftS (Lib.trimSuffix (Lib.trimPrefix l [39]) [39, 66]) [48, 49]).isEmpty)
def d01 (l : List UInt8) : Prop := ∀ c ∈ l, c = 48 ∨ c = 49
theorem suff_of (a b s : List UInt8) (h : s.length ≤ b.length) : Lib.hasSuffix (a ++ b) s = Lib.hasSuffix b s := by
  unfold Lib.hasSuffix
  rw [Bool.eq_iff_iff, List.isSuffixOf_iff_suffix, List.isSuffixOf_iff_suffix]
  exact ⟨fun hs => List.suffix_of_suffix_length_le hs (List.suffix_append a b) h, fun hs => hs.trans (List.suffix_append a b)⟩
theorem pre_cons (l : List UInt8) : Lib.hasPrefix (39 :: l) [39] = true ∧ Lib.trimPrefix (39 :: l) [39] = l := by
  have h : Lib.hasPrefix (39 :: l) [39] = true := by simp [Lib.hasPrefix, List.isPrefixOf]
  refine ⟨h, ?_⟩
  unfold Lib.trimPrefix
  rw [h]
  simp
theorem trim_d : ∀ (ds r : List UInt8), d01 ds → Lib.trimLeftS (ds ++ r) [48, 49] = Lib.trimLeftS r [48, 49]
  | [], r, _ => rfl
  | c :: ds, r, h => by
    have hc := h c (by simp)
    have ih := trim_d ds r (fun x hx => h x (by simp [hx]))
    unfold Lib.trimLeftS at ih ⊢
    rw [List.cons_append, List.dropWhile_cons_of_pos (by rcases hc with rfl | rfl <;> rfl)]
    exact ih
theorem suff_ok (ds r : List UInt8) : Lib.hasSuffix (ds ++ (r ++ [39, 66])) [39, 66] = true ∧ Lib.trimSuffix (ds ++ (r ++ [39, 66])) [39, 66] = ds ++ r := by
  have hs : Lib.hasSuffix (ds ++ (r ++ [39, 66])) [39, 66] = true := by
    rw [← List.append_assoc, suff_of _ _ _ (by simp)]; rfl
  refine ⟨hs, ?_⟩
  unfold Lib.trimSuffix
  rw [hs, if_pos rfl, ← List.append_assoc]
  have e : (ds ++ r ++ [39, 66]).length - [39, (66 : UInt8)].length = (ds ++ r).length := by simp; omega
  rw [e]
  exact List.take_left
theorem ok_good (ds : List UInt8) (h : d01 ds) : ok (39 :: (ds ++ [39, 66])) = true := by
  have hs := suff_ok ds []
  rw [List.nil_append, List.append_nil] at hs
  have ht := trim_d ds [] h
  rw [List.append_nil] at ht
  unfold ok
  rw [(pre_cons _).1, (pre_cons _).2, hs.1, hs.2, ht]
  rfl
theorem ok_two (ds : List UInt8) (h : d01 ds) : ok (39 :: (ds ++ [50, 39, 66])) = false := by
  have hs := suff_ok ds [50]
  unfold ok
  rw [(pre_cons _).1, (pre_cons _).2]
  rw [show ds ++ [50, 39, 66] = ds ++ ([50] ++ [39, 66]) from rfl, hs.1, hs.2, trim_d ds [50] h]
  rfl
theorem ok_small (ds : List UInt8) : ok (39 :: (ds ++ [39, 98])) = false := by
  unfold ok
  rw [(pre_cons _).1, (pre_cons _).2, suff_of _ _ _ (by simp)]
  rfl
theorem ok_short (ds : List UInt8) : ok (39 :: (ds ++ [39])) = false := by
  unfold ok
  rw [(pre_cons _).1, (pre_cons _).2]
  have hn : Lib.hasSuffix (ds ++ [39]) [39, 66] = false := by
    rw [Bool.eq_false_iff]
    unfold Lib.hasSuffix
    rw [ne_eq, List.isSuffixOf_iff_suffix]
    rintro ⟨t, ht⟩
    have := congrArg List.getLast? ht
    simp at this
  rw [hn]
  rfl
/-- A text's bytes as digits 0 and 1. -/
def dg (c : UInt8) : UInt8 := if c.toNat % 2 = 0 then 48 else 49
theorem dg_01 (l : List UInt8) : d01 (l.map dg) := by
  intro c hc
  obtain ⟨x, _, rfl⟩ := List.mem_map.1 hc
  unfold dg
  split
  · exact .inl rfl
  · exact .inr rfl
end MtBitM
end Go.Proofs.YtkecaeceeldcaaaGreatDoor
