import Derived.Test.YtkknenmpdimdbaaGreatDoorFZ12
import Derived.Test.YtkknenmpdimdbaaGreatDoorFZ14
import Derived.Lib.AppendZeros
import Derived.Sort.OwnSorted
import Derived.Test.YtkknenmpdimdbaaGreatDoorFZ10
import Derived.Test.YtkknenmpdimdbaaGreatDoorFZ11
namespace Go.Proofs.YtkknenmpdimdbaaGreatDoor
namespace Ke
open TextMath (fold lo normal check)
set_option linter.unusedVariables false

/-- Why a part is none: the first fault's number; 0: it is one. -/
def perr : List (List UInt8) → List PR → Nat
  | _, [] => 0
  | seen, p :: t => if tyOk p.1 = false then 59 else if tyC p.1 ∈ seen then 57 else if utf p.2 = false then 51 else perr (seen ++ [tyC p.1]) t
def rerr (ps : List PR) : Nat := if ps.length = 0 then 59 else if 8 < ps.length then 58 else perr [] ps
def cer (ps : List PR) (num : Int) : Nat := if 64 ≤ num then 58 else rerr ps
def tys (l : List PR) : List (List UInt8) := l.map fun p => tyC p.1
theorem perr_at (ps : List PR) : ∀ k, k ≤ ps.length → (∀ j, j < k → OkI ps j) → perr [] ps = perr (tys (ps.take k)) (ps.drop k)
  | 0, _, _ => by simp [tys]
  | k + 1, hk, h => by
    rw [perr_at ps k (by omega) (fun j hj => h j (by omega))]
    obtain ⟨hlt, h1, h2, h3⟩ := h k (by omega)
    rw [List.drop_eq_getElem_cons hlt]
    conv => lhs; unfold perr
    have h2' : tyC ps[k].1 ∉ tys (ps.take k) := h2
    rw [if_neg (by rw [h1]; decide), if_neg h2', if_neg (by rw [h3]; decide), List.take_succ_eq_append_getElem hlt]
    unfold tys
    rw [List.map_append]
    rfl
theorem rer_one {ps : List PR} (h1 : 1 ≤ ps.length) (h8 : ps.length ≤ 8) (k : Nat) (hk : k < ps.length) (h : ∀ j, j < k → OkI ps j) : rerr ps = perr (tys (ps.take k)) (ps[k] :: ps.drop (k + 1)) := by
  unfold rerr
  rw [if_neg (by omega), if_neg (by omega), perr_at ps k (by omega) h, List.drop_eq_getElem_cons hk]
theorem rer_ty {ps : List PR} (h1 : 1 ≤ ps.length) (h8 : ps.length ≤ 8) (k : Nat) (hk : k < ps.length) (h : ∀ j, j < k → OkI ps j) (ht : ¬ tyOk ps[k].1 = true) : rerr ps = 59 := by
  rw [rer_one h1 h8 k hk h]
  unfold perr
  rw [if_pos (by simpa using ht)]
theorem rer_in {ps : List PR} (h1 : 1 ≤ ps.length) (h8 : ps.length ≤ 8) (k : Nat) (hk : k < ps.length) (h : ∀ j, j < k → OkI ps j) (ht : tyOk ps[k].1 = true) (hi : tyC ps[k].1 ∈ tys (ps.take k)) : rerr ps = 57 := by
  rw [rer_one h1 h8 k hk h]
  unfold perr
  rw [if_neg (by rw [ht]; decide), if_pos hi]
theorem rer_ut {ps : List PR} (h1 : 1 ≤ ps.length) (h8 : ps.length ≤ 8) (k : Nat) (hk : k < ps.length) (h : ∀ j, j < k → OkI ps j) (ht : tyOk ps[k].1 = true) (hi : tyC ps[k].1 ∉ tys (ps.take k)) (hu : ¬ utf ps[k].2 = true) : rerr ps = 51 := by
  rw [rer_one h1 h8 k hk h]
  unfold perr
  rw [if_neg (by rw [ht]; decide), if_neg hi, if_pos (by simpa using hu)]
theorem rer_ok {ps : List PR} (h : OkP ps) : rerr ps = 0 := by
  unfold rerr
  have h1 := h.1
  have h2 := h.2.1
  rw [if_neg (by omega), if_neg (by omega), perr_at ps ps.length (Nat.le_refl _) h.2.2, List.drop_of_length_le (Nat.le_refl _)]
  rfl
end Ke
end Go.Proofs.YtkknenmpdimdbaaGreatDoor

namespace Go.Proofs.YtkknenmpdimdbaaGreatDoor
namespace Ke
open Go.RowKit
open TextMath (fold lo normal check)
open Du (PRow pV pV_len prow_at)
set_option linter.unusedVariables false
set_option linter.unusedSimpArgs false
set_option maxRecDepth 100000

/-- The reasons that refusals tell: ev, by their numbers. -/
def ErrsF (ev : Nat → TypeId × Value) (W : World) : Prop := W.cell? ⟨8, 0, none⟩ = some (.iface (ev 58).1 (ev 58).2) ∧ W.cell? ⟨9, 0, none⟩ = some (.iface (ev 59).1 (ev 59).2) ∧ W.cell? ⟨7, 0, none⟩ = some (.iface (ev 57).1 (ev 57).2) ∧ W.cell? ⟨1, 0, none⟩ = some (.iface (ev 51).1 (ev 51).2)
theorem ErrsF.below {ev : Nat → TypeId × Value} {W W' : World} (h : ErrsF ev W) (hb : Below W.heap.size W W') : ErrsF ev W' := by
  obtain ⟨h0, h1, h2, h3⟩ := h
  exact ⟨(hb.cell (World.block_lt_of_cell? W _ h0)).trans h0, (hb.cell (World.block_lt_of_cell? W _ h1)).trans h1, (hb.cell (World.block_lt_of_cell? W _ h2)).trans h2, (hb.cell (World.block_lt_of_cell? W _ h3)).trans h3⟩
/-- A refusal with its reason and its place. -/
def refV (ev : Nat → TypeId × Value) (k : Nat) (num : Int) : Value := .iface 69 (.agg #[.iface (ev k).1 (ev k).2, .int .i64 num])
end Ke
end Go.Proofs.YtkknenmpdimdbaaGreatDoor

namespace Go.Proofs.YtkknenmpdimdbaaGreatDoor
namespace Ke
open Go.RowKit
set_option linter.unusedVariables false
set_option linter.unusedSimpArgs false
set_option maxRecDepth 100000

set_option maxHeartbeats 1000000 in
/-- Does the byte stand in the text? -/
theorem among_any (c : UInt8) (s : ByteArray) (w : World) (hs : s.size ≤ 1048576) :
    Calls Tryz.prog 73 #[.int .u8 (c.toNat : Int), .string s] w fun e w' => e = .returned (.bool (s.data.toList.contains c)) ∧ w' = w := by
  have hL : Hid (s.data.toList.length = s.size) := size_l s
  obtain ⟨r, hr⟩ : ∃ r, s.data.toList.contains c = r := ⟨_, rfl⟩
  rw [hr]
  have hr' : Hid (s.data.toList.contains c = r) := hr
  clear hr
  go_enter Tryz.func73, Tryz.ntmps73
  go_wp2_with fail
  go_loop [5] (fun i => ∃ k : Nat, k ≤ s.size ∧ i = .int .i64 k ∧ Hid (¬ c ∈ s.data.toList.take k)) (fun i => s.size - (intOf i).toNat)
  case atStart => exact ⟨0, Nat.zero_le _, rfl, by unfold Hid; simp⟩
  case round =>
    obtain ⟨k, hk, rfl, hR⟩ := hrel
    have k0 : (0 : Int) ≤ (k : Int) := Int.natCast_nonneg _
    by_cases hlt : k < s.size
    · have k1 : (k : Int) < (s.size : Int) := Int.ofNat_lt.2 hlt
      have hsn := take_snoc s k hlt
      have hmem : Hid (s[k] ∈ s.data.toList) := by
        have : s[k] = s.data.toList[k]'(by rw [hL.out]; exact hlt) := rfl
        unfold Hid
        rw [this]
        exact List.getElem_mem _
      obtain ⟨b, hb⟩ : ∃ b, s[k] = b := ⟨_, rfl⟩
      rw [hb] at hsn hmem
      have hbq := u8_beq b c
      by_cases e : b = c
      · have hfin : Hid (r = true) := by
          unfold Hid
          rw [← hr'.out, List.contains_iff_mem, ← e]
          exact hmem.out
        rw [e, beq_self_eq_true] at hbq
        have hbq' := hbq.symm
        subst e
        clear hsn hmem hR hbq
        go_wp2_with fail
        go_ret
        exact ⟨by rw [hfin.out]; rfl, rfl⟩
      · have hfin : Hid (¬ c ∈ s.data.toList.take (k + 1)) := by
          unfold Hid
          rw [hsn, List.mem_append]
          rintro (h | h)
          · exact hR.out h
          · exact e (List.mem_singleton.1 h).symm
        have hbq' : ((b.toNat : Int) == (c.toNat : Int)) = false := by rw [← hbq]; simpa using e
        clear hsn hmem hR hbq e
        go_wp2_with fail
        go_round
        case rel => exact ⟨k + 1, hlt, by go_num, hfin⟩
        case measure => simp [intOf]; omega
    · have e : k = s.size := by omega
      subst e
      have i1 : ¬ (s.size : Int) < (s.size : Int) := by omega
      have hfin : Hid (r = false) := by
        have h := hR.out
        rw [List.take_of_length_le (by rw [hL.out]; exact Nat.le_refl _)] at h
        unfold Hid
        rw [← hr'.out, ← Bool.not_eq_true, List.contains_iff_mem]
        exact h
      clear hR
      go_wp2_with fail
      go_ret
      exact ⟨by rw [hfin.out]; rfl, rfl⟩

end Ke
end Go.Proofs.YtkknenmpdimdbaaGreatDoor

namespace Go.Proofs.YtkknenmpdimdbaaGreatDoor
namespace Ke
open Go.RowKit
set_option linter.unusedVariables false
set_option linter.unusedSimpArgs false
set_option maxRecDepth 100000

end Ke
end Go.Proofs.YtkknenmpdimdbaaGreatDoor

namespace Go.Proofs.YtkknenmpdimdbaaGreatDoor
open Go.RowKit Go.Shelf Go.Sort
set_option linter.unusedVariables false

theorem sv_enc (l : List (List UInt8)) : sv l = l.map encStr := rfl
end Go.Proofs.YtkknenmpdimdbaaGreatDoor

namespace Go.Proofs.YtkknenmpdimdbaaGreatDoor
open Go.RowKit
set_option linter.unusedVariables false

end Go.Proofs.YtkknenmpdimdbaaGreatDoor

namespace Go.Proofs.YtkknenmpdimdbaaGreatDoor
open Go.RowKit
set_option linter.unusedVariables false

/-- A row's name; the number of the row above. -/
def nmN (n : Nat) : List UInt8 := if h : n < 62 then (rowL ⟨n, h⟩).1.data.toList else []
def upN (n : Nat) : Nat := (SUP.getD n 0).toNat
/-- The names from a row on upwards; 0: none. -/
def chn : Nat → Nat → List (List UInt8)
  | 0, _ => []
  | k + 1, n => if n = 0 then [] else nmN n :: chn k (upN n)
/-- The number of the row that a text names; 0, if it names none. -/
def noN (f : ByteArray) : Nat := match rowOf f with
  | none => 0
  | some i => i.1
/-- What lineage answers of a folded text. -/
def lin (f : ByteArray) : List (List UInt8) := (canN f).data.toList :: chn 3 (upN (noN f))
end Go.Proofs.YtkknenmpdimdbaaGreatDoor

namespace Go.Proofs.YtkknenmpdimdbaaGreatDoor
open Go.RowKit

/-- The options from e on, behind those that were read: the options, the place, whether all is whole. -/
def dscE (s : ByteArray) : Nat → Nat → List (List UInt8) → List (List UInt8) × Nat × Bool
  | 0, e, _ => ([], e, false)
  | n + 1, e, acc =>
    if e < s.size then
      if (s.data.toList.getD e 0).toNat = 59 then
        if runE isK s.data.toList (e + 1) = e + 1 then ([], e + 1, false)
        else dscE s n (runE isK s.data.toList (e + 1)) (acc ++ [(s.extract (e + 1) (runE isK s.data.toList (e + 1))).data.toList])
      else ([], e, false)
    else (acc, e, true)
end Go.Proofs.YtkknenmpdimdbaaGreatDoor

namespace Go.Proofs.YtkknenmpdimdbaaGreatDoor
open Go.RowKit
open TextMath (fold lo)
set_option linter.unusedVariables false

/-- A text that is a type and nothing else. -/
def Typ (f : ByteArray) : Prop := (typE f.data.toList).1 = f.size ∧ (typE f.data.toList).2 = true

/-- The book of one asked text, laid down: what the calls over it may lean on. -/
theorem fold_size (s : ByteArray) : (S (fold s.data.toList)).size = s.size := by
  rw [S_size]
  unfold fold
  rw [List.length_map, size_l]

/-- The syntax of a type. -/
def synN (f : ByteArray) : Int := match rowOf f with
  | none => 0
  | some i => SYN.getD i.1 0
end Go.Proofs.YtkknenmpdimdbaaGreatDoor

namespace Go.Proofs.YtkknenmpdimdbaaGreatDoor
open Go.RowKit
open TextMath (fold lo)
set_option linter.unusedVariables false

end Go.Proofs.YtkknenmpdimdbaaGreatDoor

namespace Go.Proofs.YtkknenmpdimdbaaGreatDoor
open Go.RowKit
open TextMath (fold lo)
set_option linter.unusedVariables false

/-- A description's type, and its options, its place, whether it is whole. -/
def typD (f : ByteArray) : ByteArray := f.extract 0 (typE f.data.toList).1
def desc (f : ByteArray) : List (List UInt8) × Nat × Bool := if (typE f.data.toList).2 = true then dscE f (f.size + 1) (typE f.data.toList).1 [] else ([], (typE f.data.toList).1, false)
end Go.Proofs.YtkknenmpdimdbaaGreatDoor

namespace Go.Proofs.YtkknenmpdimdbaaGreatDoor
open Go.RowKit
open TextMath (fold lo)
set_option linter.unusedVariables false

end Go.Proofs.YtkknenmpdimdbaaGreatDoor

namespace Go.Proofs.YtkknenmpdimdbaaGreatDoor
open TextMath (fold lo)
set_option linter.unusedVariables false

/-- Options, each behind its mark. -/
def semis (zs : List (List UInt8)) : List UInt8 := zs.flatMap fun z => 59 :: z
theorem semis_cons (z : List UInt8) (zs : List (List UInt8)) : semis (z :: zs) = 59 :: (z ++ semis zs) := by simp [semis]
theorem semis_len (zs : List (List UInt8)) : zs.length ≤ (semis zs).length := by
  induction zs with
  | nil => simp
  | cons z zs ih => rw [semis_cons]; simp; omega
theorem runE_semi (p : UInt8 → Bool) (hp : p 59 = false) (l r : List UInt8) (e : Nat) (he : e ≤ l.length) : runE p (l ++ 59 :: r) e = runE p l e := by
  unfold runE
  rw [List.drop_append_of_le_length he]
  congr 1
  generalize l.drop e = k
  induction k with
  | nil => simp [hp]
  | cons a k ih =>
    rw [List.cons_append, List.takeWhile_cons, List.takeWhile_cons]
    split
    · simp [ih]
    · rfl
theorem getD_semi (l r : List UInt8) (e : Nat) (he : e < l.length) : (l ++ 59 :: r).getD e 0 = l.getD e 0 := by
  simp [List.getD, List.getElem?_append_left he]
theorem getD_at (l r : List UInt8) : (l ++ 59 :: r).getD l.length 0 = 59 := by simp [List.getD]
theorem getD_over (l : List UInt8) : l.getD l.length 0 = 0 := by simp [List.getD]
theorem numE_semi (l r : List UInt8) (e : Nat) (he : e ≤ l.length) : numE (l ++ 59 :: r) e = numE l e := by
  unfold numE
  rw [runE_semi isD (by decide) l r e he]
  by_cases h : e < l.length
  · rw [getD_semi l r e h]
    have : e < (l ++ 59 :: r).length := by simp; omega
    simp only [h, this, and_true]
  · have : e = l.length := by omega
    subst this
    rw [getD_at, getD_over]
    simp
theorem idE_semi (l r : List UInt8) : ∀ n n' m e, e ≤ l.length → l.length - e < n → l.length - e < n' → idE (l ++ 59 :: r) n' m e = idE l n m e
  | 0, _, _, _, _, h, _ => by omega
  | _ + 1, 0, _, _, _, _, h => by omega
  | n + 1, n' + 1, m, e, he, h1, h2 => by
    unfold idE
    rw [numE_semi l r e he]
    have hle := numE_le l e he
    by_cases h3 : numE l e = e
    · rw [if_pos h3, if_pos h3]
    · rw [if_neg h3, if_neg h3]
      by_cases h4 : numE l e = l.length
      · rw [if_pos (Or.inr (by rw [h4, getD_at]; decide)), if_pos (Or.inl h4)]
      · have h5 : numE l e < l.length := by omega
        rw [getD_semi l r _ h5]
        have h6 : ¬ numE l e = (l ++ 59 :: r).length := by simp; omega
        by_cases h7 : (l.getD (numE l e) 0).toNat = 46
        · rw [if_neg (by simp only [h6, h7]; simp), if_neg (by simp only [h4, h7]; simp)]
          exact idE_semi l r n n' (m + 1) (numE l e + 1) (by omega) (by omega) (by omega)
        · rw [if_pos (Or.inr h7), if_pos (Or.inr h7)]
theorem typE_semi (l r : List UInt8) : typE (l ++ 59 :: r) = typE l := by
  unfold typE
  by_cases hl : l = []
  · subst hl
    have h1 : ¬ (¬ ([] ++ 59 :: r : List UInt8) = [] ∧ isL (([] ++ 59 :: r).getD 0 0) = true) := by
      intro h
      have : isL 59 = false := by decide
      have h2 := h.2
      simp [List.getD, this] at h2
    rw [if_neg h1, if_neg (by simp)]
    exact idE_semi [] r _ _ 1 0 (by simp) (by simp) (by simp)
  · have hz : 0 < l.length := List.length_pos_iff.2 hl
    rw [getD_semi l r 0 hz]
    by_cases h : isL (l.getD 0 0) = true
    · rw [if_pos ⟨by simp, h⟩, if_pos ⟨hl, h⟩, runE_semi isK (by decide) l r 1 (by omega)]
    · rw [if_neg (fun q => h q.2), if_neg (fun q => h q.2)]
      exact idE_semi l r _ _ 1 0 (by omega) (by omega) (by simp; omega)
theorem typE_semis (l : List UInt8) (zs : List (List UInt8)) : typE (l ++ semis zs) = typE l := by
  cases zs with
  | nil => simp [semis]
  | cons z zs => rw [semis_cons]; exact typE_semi _ _

theorem while_semis (z : List UInt8) (zs : List (List UInt8)) (hz : ∀ b ∈ z, isK b = true) : (z ++ semis zs).takeWhile isK = z := by
  induction z with
  | nil =>
    cases zs with
    | nil => simp [semis]
    | cons y ys =>
      have : isK 59 = false := by decide
      rw [semis_cons]
      simp [this]
  | cons a z ih =>
    rw [List.cons_append, List.takeWhile_cons, if_pos (hz a (by simp)), ih (fun b hb => hz b (by simp [hb]))]
theorem dscE_run (s : ByteArray) : ∀ (zs : List (List UInt8)) (n e : Nat) (acc : List (List UInt8)), s.data.toList.drop e = semis zs → e ≤ s.size → (∀ z ∈ zs, z ≠ [] ∧ ∀ b ∈ z, isK b = true) → zs.length < n → dscE s n e acc = (acc ++ zs, s.size, true)
  | _, 0, _, _, _, _, _, h => by omega
  | [], n + 1, e, acc, hd, he, _, _ => by
    have h1 : s.data.toList.length ≤ e := List.drop_eq_nil_iff.1 hd
    rw [size_l] at h1
    unfold dscE
    rw [if_neg (by omega), List.append_nil, show e = s.size by omega]
  | z :: zs, n + 1, e, acc, hd, he, hz, hn => by
    rw [semis_cons] at hd
    have hlt : e < s.data.toList.length := by
      rcases Nat.lt_or_ge e s.data.toList.length with h | h
      · exact h
      · rw [List.drop_of_length_le h] at hd; cases hd
    have hlt' : e < s.size := by rw [← size_l]; exact hlt
    rw [List.drop_eq_getElem_cons hlt] at hd
    injection hd with h59 hd
    have hg : (s.data.toList.getD e 0).toNat = 59 := by
      rw [List.getD, List.getElem?_eq_getElem hlt, Option.getD_some, h59]
      decide
    have hk := hz z (by simp)
    have hrun : runE isK s.data.toList (e + 1) = e + 1 + z.length := by
      unfold runE
      rw [hd, while_semis z zs hk.2]
    have hzl : 0 < z.length := List.length_pos_iff.2 hk.1
    have hlen : e + 1 + z.length ≤ s.size := by
      have := congrArg List.length hd
      rw [List.length_drop, size_l] at this
      simp at this
      omega
    unfold dscE
    rw [if_pos hlt', if_pos hg, hrun, if_neg (by omega)]
    have hex : (s.extract (e + 1) (e + 1 + z.length)).data.toList = z := by
      rw [ByteArray.data_extract, Array.toList_extract, List.extract_eq_take_drop, hd]
      rw [show e + 1 + z.length - (e + 1) = z.length by omega]
      simp
    rw [hex]
    have ih := dscE_run s zs n (e + 1 + z.length) (acc ++ [z]) (by rw [← List.drop_drop, hd]; simp) hlen (fun y hy => hz y (by simp [hy])) (by simp at hn; omega)
    rw [ih]
    simp
theorem desc_semis (l : List UInt8) (zs : List (List UInt8)) (hT : typE l = (l.length, true)) (hz : ∀ z ∈ zs, z ≠ [] ∧ ∀ b ∈ z, isK b = true) :
    desc (S (l ++ semis zs)) = (zs, (S (l ++ semis zs)).size, true) ∧ typD (S (l ++ semis zs)) = S l := by
  have e1 : typE (S (l ++ semis zs)).data.toList = (l.length, true) := by rw [S_l, typE_semis, hT]
  constructor
  · unfold desc
    rw [e1, if_pos rfl]
    have h := dscE_run (S (l ++ semis zs)) zs ((S (l ++ semis zs)).size + 1) l.length [] (by rw [S_l]; simp) (by rw [S_size]; simp) hz (by
      rw [S_size]
      have := semis_len zs
      simp
      omega)
    rw [h]
    simp
  · unfold typD
    rw [e1]
    refine (S_of _).symm.trans ?_
    congr 1
    rw [ByteArray.data_extract, Array.toList_extract, List.extract_eq_take_drop, S_l]
    simp
end Go.Proofs.YtkknenmpdimdbaaGreatDoor

namespace Go.Proofs.YtkknenmpdimdbaaGreatDoor
open Go.RowKit
open TextMath (fold lo)
set_option linter.unusedVariables false

theorem rowOf_hit (f : ByteArray) (i : Fin 62) (h : hit f i = true) : rowOf f = some i := by
  unfold rowOf
  cases hq : (List.finRange 62).find? (hit f) with
  | none =>
    have := List.find?_eq_none.1 hq i (List.mem_finRange i)
    exact absurd h this
  | some j =>
    have hj := List.find?_some hq
    rw [hit_unique f j i hj h]
/-- What the law asks of the list of super types. -/
structure UpOk (f : ByteArray) (up : List (List UInt8)) : Prop where
  len : up.length ≤ 3
  pos : 0 < up.length
  head : up.getD 0 [] = (canN f).data.toList
  each : ∀ i, i < up.length → S (fold (up.getD i [])) = S (up.getD i []) ∧ Typ (S (up.getD i [])) ∧ canN (S (up.getD i [])) = S (up.getD i []) ∧ lin (S (up.getD i [])) = up.drop i ∧ synN (S (up.getD i [])) = synN f
  ord : ∀ i j, i < up.length → j < up.length → decide (up.getD j [] ∈ up.drop i) = decide (i ≤ j)
  size : ∀ i, i < up.length → (up.getD i []).length ≤ 140737488355328
end Go.Proofs.YtkknenmpdimdbaaGreatDoor

namespace Go.Proofs.YtkknenmpdimdbaaGreatDoor
open TextMath (fold lo)
set_option linter.unusedVariables false

theorem mem_while (p : UInt8 → Bool) : ∀ (l : List UInt8) (b : UInt8), b ∈ l.takeWhile p → p b = true
  | [], b, h => by simp at h
  | a :: l, b, h => by
    rw [List.takeWhile_cons] at h
    by_cases ha : p a = true
    · rw [if_pos ha] at h
      rcases List.mem_cons.1 h with rfl | h
      · exact ha
      · exact mem_while p l b h
    · rw [if_neg ha] at h; simp at h
theorem take_while (p : UInt8 → Bool) (l : List UInt8) : l.take (l.takeWhile p).length = l.takeWhile p := by
  induction l with
  | nil => simp
  | cons a l ih =>
    rw [List.takeWhile_cons]
    split
    · simp [ih]
    · simp
end Go.Proofs.YtkknenmpdimdbaaGreatDoor

namespace Go.Proofs.YtkknenmpdimdbaaGreatDoor
open TextMath (fold lo)
set_option linter.unusedVariables false

end Go.Proofs.YtkknenmpdimdbaaGreatDoor
