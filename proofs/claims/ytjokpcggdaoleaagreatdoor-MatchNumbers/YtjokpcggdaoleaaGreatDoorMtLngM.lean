import Derived.Test.YtjokpcggdaoleaaGreatDoorMtIntR
import Derived.Test.YtjokpcggdaoleaaGreatDoorMtBitL
import Derived.Lib.ParseIntBCases
namespace Go.Proofs.YtjokpcggdaoleaaGreatDoor
open Go.RowKit
set_option linter.unusedVariables false

/-- Digits alone. -/
def dig (l : List UInt8) : Prop := ∀ c ∈ l, 48 ≤ c.toNat ∧ c.toNat ≤ 57
theorem dig_mem (c : UInt8) (h : 48 ≤ c.toNat ∧ c.toNat ≤ 57) : dgs.contains c = true := by
  obtain ⟨h1, h2⟩ := h
  have e : c = UInt8.ofNat c.toNat := by simp
  generalize c.toNat = n at *
  have : n = 48 ∨ n = 49 ∨ n = 50 ∨ n = 51 ∨ n = 52 ∨ n = 53 ∨ n = 54 ∨ n = 55 ∨ n = 56 ∨ n = 57 := by omega
  subst e
  rcases this with rfl | rfl | rfl | rfl | rfl | rfl | rfl | rfl | rfl | rfl <;> rfl
theorem dig_trim : ∀ l : List UInt8, dig l → Lib.trimLeftS l dgs = []
  | [], _ => rfl
  | c :: l, h => by
    have ih := dig_trim l (fun x hx => h x (by simp [hx]))
    unfold Lib.trimLeftS at ih ⊢
    rw [List.dropWhile_cons_of_pos (by simpa using dig_mem c (h c (by simp)))]
    exact ih
theorem num_ok (c : UInt8) (l : List UInt8) (hc : ¬ c = 48) (h : dig (c :: l)) : numOk (c :: l) = true := by
  unfold numOk
  rw [dig_trim _ h]
  simp [hc]
theorem pre_no (c : UInt8) (l : List UInt8) (hc : ¬ c = 45) : Lib.hasPrefix (c :: l) [45] = false ∧ Lib.trimPrefix (c :: l) [45] = c :: l := by
  have hc' : ¬ 45 = c := fun h => hc h.symm
  have h : Lib.hasPrefix (c :: l) [45] = false := by simp [Lib.hasPrefix, List.isPrefixOf, hc']
  exact ⟨h, by unfold Lib.trimPrefix; rw [h]; rfl⟩
theorem pre_yes (l : List UInt8) : Lib.hasPrefix (45 :: l) [45] = true ∧ Lib.trimPrefix (45 :: l) [45] = l := by
  have h : Lib.hasPrefix (45 :: l) [45] = true := by simp [Lib.hasPrefix, List.isPrefixOf]
  exact ⟨h, by unfold Lib.trimPrefix; rw [h]; simp⟩
theorem dig_ne (c : UInt8) (h : 48 ≤ c.toNat ∧ c.toNat ≤ 57) : ¬ c = 45 ∧ ¬ c = 43 := by
  refine ⟨fun e => ?_, fun e => ?_⟩ <;> subst e <;> exact absurd h (by decide)
theorem int_ok (c : UInt8) (l : List UInt8) (hc : ¬ c = 48) (h : dig (c :: l)) : intOk (c :: l) = true := by
  unfold intOk
  rw [(pre_no c l (dig_ne c (h c (by simp))).1).1, (pre_no c l (dig_ne c (h c (by simp))).1).2, num_ok c l hc h]
  rfl
theorem int_neg (c : UInt8) (l : List UInt8) (hc : ¬ c = 48) (h : dig (c :: l)) : intOk (45 :: c :: l) = true := by
  unfold intOk
  rw [(pre_yes _).1, (pre_yes _).2, num_ok c l hc h]
  simp [hc]
theorem int_zero (c : UInt8) (l : List UInt8) : intOk (48 :: c :: l) = false := by
  unfold intOk
  rw [(pre_no 48 _ (by decide)).2]
  rfl
theorem cmpN_up (a b : List UInt8) (h : b.length < a.length) : cmpN a b = 1 := by
  have : Lib.compareInt (a.length : Int) (b.length : Int) = 1 := by
    unfold Lib.compareInt
    rw [if_neg (by omega), if_pos (by omega)]
  unfold cmpN
  rw [this]
  rfl
theorem cmpN_down (a b : List UInt8) (h : a.length < b.length) : cmpN a b = -1 := by
  have : Lib.compareInt (a.length : Int) (b.length : Int) = -1 := by
    unfold Lib.compareInt
    rw [if_pos (by omega)]
  unfold cmpN
  rw [this]
  rfl
theorem far_M : ∀ (l : List UInt8) (acc : Nat), acc ≤ 18446744073709551615 → dig l → 18446744073709551615 < acc * 10 ^ l.length → Lib.parseUintM 18446744073709551615 acc l = .range
  | [], acc, h, _, h2 => by simp at h2; omega
  | c :: r, acc, h, hd, h2 => by
    have hc := hd c (by simp)
    unfold Lib.parseUintM
    rw [if_pos hc]
    by_cases h3 : 1844674407370955162 ≤ acc
    · rw [if_pos h3]
    · rw [if_neg h3]
      by_cases h4 : 18446744073709551615 < acc * 10 + (c.toNat - 48)
      · rw [if_pos h4]
      · rw [if_neg h4]
        refine far_M r _ (by omega) (fun x hx => hd x (by simp [hx])) ?_
        rw [List.length_cons, Nat.pow_succ] at h2
        have e : acc * (10 ^ r.length * 10) = (acc * 10) * 10 ^ r.length := by rw [Nat.mul_assoc, Nat.mul_comm 10]
        rw [e] at h2
        exact Nat.lt_of_lt_of_le h2 (Nat.mul_le_mul_right _ (by omega))
theorem far_nine (l : List UInt8) (hd : dig l) (hl : 20 ≤ l.length) : Lib.parseIntB 64 (57 :: l) = .range := by
  rw [Lib.parseIntB_plain 64 57 l (by decide) (by decide)]
  have : Lib.parseUintB 64 (57 :: l) = .range := by
    unfold Lib.parseUintB
    rw [if_neg (by simp)]
    show Lib.parseUintM 18446744073709551615 0 (57 :: l) = .range
    unfold Lib.parseUintM
    rw [if_pos (by decide), if_neg (by decide), if_neg (by decide)]
    refine far_M l _ (by decide) hd ?_
    have h1 : 10 ^ 20 ≤ 10 ^ l.length := Nat.pow_le_pow_right (by decide) hl
    have h2 : 18446744073709551615 < 9 * 10 ^ 20 := by decide
    exact Nat.lt_of_lt_of_le h2 (Nat.mul_le_mul_left 9 h1)
  rw [this]
  rfl
/-- A text's bytes as digits. -/
def dgT (c : UInt8) : UInt8 := 48 + c % 10
theorem dgT_val (c : UInt8) : (dgT c).toNat = 48 + c.toNat % 10 := by
  unfold dgT
  rw [UInt8.toNat_add, UInt8.toNat_mod]
  show (48 + c.toNat % 10) % 256 = _
  omega
theorem dgT_dig (l : List UInt8) : dig (l.map dgT) := by
  intro c hc
  obtain ⟨x, _, rfl⟩ := List.mem_map.1 hc
  rw [dgT_val]
  omega
theorem dig_app {a b : List UInt8} (ha : dig a) (hb : dig b) : dig (a ++ b) := fun c hc => by
  rcases List.mem_append.1 hc with h | h
  · exact ha c h
  · exact hb c h
theorem dig_zeros (n : Nat) : dig (List.replicate n 48) := fun c hc => by
  rw [(List.mem_replicate.1 hc).2]
  decide
theorem dig_cons {c : UInt8} {l : List UInt8} (h : 48 ≤ c.toNat ∧ c.toNat ≤ 57) (hl : dig l) : dig (c :: l) := fun x hx => by
  rcases List.mem_cons.1 hx with rfl | hx
  · exact h
  · exact hl x hx
theorem intEq_any (v a : ByteArray) (w : World) : Calls Tryz.prog 6 #[.int .i64 7, .string v, .string a] w fun e w' => e = .returned (tvE (intOk a.data.toList) (intOk v.data.toList && ((nrm (intOk v.data.toList) v).toList == (nrm (intOk a.data.toList) a).toList))) ∧ Below w.heap.size w w' :=
  equalG_any 7 _ _ _ synInt intAt intWalked v _ a _ _ _ (intN_any v) (intN_any a) w
theorem intRule_any (v a : ByteArray) (w : World) : Calls Tryz.prog 8 #[.int .i64 7, .int .i64 7, .string v, .string a] w fun e w' => e = .returned (tvE (intOk a.data.toList) (intOk v.data.toList && ((nrm (intOk v.data.toList) v).toList == (nrm (intOk a.data.toList) a).toList))) ∧ Below w.heap.size w w' :=
  byRuleEq_any 7 7 _ _ _ (by omega) (by omega) (fun cs h => h.2.1) (by omega) (by omega) synInt intAt intWalked v _ a _ _ _ (intN_any v) (intN_any a) w
end Go.Proofs.YtjokpcggdaoleaaGreatDoor
