import Derived.Test.YthgpinamglpniabTrim
import Derived.Deep.QuietTactic
import Derived.BigQuiet
namespace Go.Proofs.Ythgpinamglpniab
open Go.RowKit
open TextMath (fold lo col bl trimP trimS squeeze normal sqA sqB)

/-- The first place from i on that is no blank. -/
def nxt (l : List UInt8) (i : Nat) : Nat := i + ((l.drop i).takeWhile bl).length

theorem takeWhile_len (m : List UInt8) : (m.takeWhile bl).length ≤ m.length := by
  induction m with
  | nil => simp
  | cons a t ih => simp only [List.takeWhile_cons]; split <;> simp <;> omega
theorem nxt_ge (l : List UInt8) (i : Nat) : i ≤ nxt l i := by unfold nxt; omega
theorem nxt_le (l : List UInt8) (i : Nat) (h : i ≤ l.length) : nxt l i ≤ l.length := by
  have := takeWhile_len (l.drop i)
  rw [List.length_drop] at this
  unfold nxt; omega
theorem nxt_step (l : List UInt8) (i : Nat) (h : i < l.length) (hb : bl l[i] = true) : nxt l i = nxt l (i + 1) := by
  unfold nxt
  rw [List.drop_eq_getElem_cons h, List.takeWhile_cons, if_pos hb]; simp; omega
theorem nxt_stop (l : List UInt8) (i : Nat) (h : i < l.length) (hb : bl l[i] = false) : nxt l i = i := by
  unfold nxt
  rw [List.drop_eq_getElem_cons h, List.takeWhile_cons, if_neg (by simp [hb])]; simp
theorem nxt_end (l : List UInt8) (i : Nat) (h : ¬ i < l.length) : nxt l i = i := by
  unfold nxt
  rw [List.drop_eq_nil_of_le (by omega)]; simp
theorem drop_tw (m : List UInt8) : m.drop (m.takeWhile bl).length = m.dropWhile bl := by
  induction m with
  | nil => rfl
  | cons a t ih =>
    simp only [List.takeWhile_cons, List.dropWhile_cons]
    by_cases h : bl a = true
    · rw [if_pos h, if_pos h]; simpa using ih
    · rw [if_neg h, if_neg h]; rfl
theorem drop_nxt (l : List UInt8) (i : Nat) : l.drop (nxt l i) = (l.drop i).dropWhile bl := by
  unfold nxt; rw [← List.drop_drop, drop_tw]
theorem sqA_dw (m : List UInt8) : sqA (fold (m.dropWhile bl)) = sqA (fold m) := by
  induction m with
  | nil => rfl
  | cons a t ih =>
    simp only [List.dropWhile_cons]
    by_cases h : bl a = true
    · rw [if_pos h, ih]; simp [fold, sqA, TextMath.bl_lo, h]
    · rw [if_neg h]
theorem sqA_nxt (l : List UInt8) (i : Nat) : sqA (fold (l.drop (nxt l i))) = sqA (fold (l.drop i)) := by rw [drop_nxt, sqA_dw]
theorem sqB_dw (m : List UInt8) : sqB true (fold (m.dropWhile bl)) = sqB true (fold m) := by
  induction m with
  | nil => rfl
  | cons a t ih =>
    simp only [List.dropWhile_cons]
    by_cases h : bl a = true
    · rw [if_pos h, ih]; simp [fold, sqB, TextMath.bl_lo, h]
    · rw [if_neg h]
theorem nxt_blank (l : List UInt8) (i : Nat) (h : i < l.length) (hn : i < nxt l i) : bl l[i] = true := by
  cases hb : bl l[i]
  · rw [nxt_stop l i h hb] at hn; omega
  · rfl
theorem nxt_non (l : List UInt8) (i : Nat) (h : nxt l i < l.length) : bl l[nxt l i] = false := by
  have hd := drop_nxt l i
  rw [List.drop_eq_getElem_cons h] at hd
  cases hb : bl l[nxt l i]
  · rfl
  · exfalso
    have : ∀ (m : List UInt8) (a : UInt8) (t : List UInt8), a :: t = m.dropWhile bl → bl a = false := by
      intro m
      induction m with
      | nil => intro a t h; simp at h
      | cons b r ih =>
        intro a t h
        simp only [List.dropWhile_cons] at h
        by_cases hbb : bl b = true
        · rw [if_pos hbb] at h; exact ih a t h
        · rw [if_neg hbb] at h; injection h with h1 _; rw [h1]; simpa using hbb
    rw [this _ _ _ hd] at hb; cases hb

theorem fold_cons (a : UInt8) (t : List UInt8) : fold (a :: t) = lo a :: fold t := rfl
/-- One step of the walk beside: from a byte that is no blank. -/
theorem walk_head (l : List UInt8) (i : Nat) (h : i < l.length) (hb : bl l[i] = false) : sqA (fold (l.drop i)) = lo l[i] :: sqB false (fold (l.drop (i + 1))) := by
  rw [List.drop_eq_getElem_cons h, fold_cons]; simp [sqA, TextMath.bl_lo, hb]
theorem walk_near (l : List UInt8) (i : Nat) (h : nxt l i = i) : sqB false (fold (l.drop i)) = sqA (fold (l.drop i)) := by
  by_cases hl : i < l.length
  · have hb : bl l[i] = false := by have := nxt_non l i (by rw [h]; exact hl); simpa [h] using this
    rw [List.drop_eq_getElem_cons hl, fold_cons]; simp [sqA, sqB, TextMath.bl_lo, hb]
  · rw [List.drop_eq_nil_of_le (by omega)]; rfl
theorem walk_far (l : List UInt8) (i : Nat) (h : i < nxt l i) (hl : nxt l i < l.length) : sqB false (fold (l.drop i)) = 32 :: sqA (fold (l.drop (nxt l i))) := by
  have hi : i < l.length := by omega
  have hb := nxt_blank l i hi h
  have hn := nxt_non l i hl
  have e : sqB false (fold (l.drop i)) = sqB true (fold (l.drop i)) := by
    rw [List.drop_eq_getElem_cons hi, fold_cons]; simp [sqB, TextMath.bl_lo, hb]
  rw [e, ← sqB_dw, ← drop_nxt, List.drop_eq_getElem_cons hl, fold_cons]
  simp [sqA, sqB, TextMath.bl_lo, hn]
theorem walk_out (l : List UInt8) (i : Nat) (h : i < nxt l i) (hl : nxt l i = l.length) : sqB false (fold (l.drop i)) = sqA (fold (l.drop (nxt l i))) := by
  have hi : i < l.length := by omega
  have hb := nxt_blank l i hi h
  have e : sqB false (fold (l.drop i)) = sqB true (fold (l.drop i)) := by
    rw [List.drop_eq_getElem_cons hi, fold_cons]; simp [sqB, TextMath.bl_lo, hb]
  rw [e, ← sqB_dw, ← drop_nxt, hl, List.drop_eq_nil_of_le (Nat.le_refl _)]; rfl

set_option maxHeartbeats 400000 in
theorem lblank_any (c : UInt8) (w : World) :
    Calls Try.prog 21 #[.int .u8 (c.toNat : Int)] w fun e w' => e = .returned (.bool (bl c)) ∧ w = w' := by
  have hc256 : c.toNat < 256 := c.toNat_lt
  rw [bl_eq, Bool.or_comm]
  generalize c.toNat = n at *
  by_cases h0 : ((n : Int) == 32) = true
  · go_enter Try.func21, Try.ntmps21
    go_wp2
    go_ret
    exact ⟨ret_bool (by simp [h0]), rfl⟩
  · have h0' : ((n : Int) == 32) = false := by simpa using h0
    clear h0
    by_cases h1 : (9 : Int) ≤ n
    · by_cases h2 : (n : Int) ≤ 13
      · go_enter Try.func21, Try.ntmps21
        go_wp2
        go_ret
        exact ⟨ret_bool (by simp [h1, h2]), rfl⟩
      · have d2 : decide ((n : Int) ≤ 13) = false := by simpa using h2
        go_enter Try.func21, Try.ntmps21
        go_wp2
        go_ret
        exact ⟨ret_bool (by simp), rfl⟩
    · have d1 : decide ((9 : Int) ≤ n) = false := by simpa using h1
      go_enter Try.func21, Try.ntmps21
      go_wp2
      go_ret
      exact ⟨ret_bool (by simp), rfl⟩

set_option maxHeartbeats 400000 in
theorem small_any (c : UInt8) (w : World) :
    Calls Try.prog 12 #[.int .u8 (c.toNat : Int)] w fun e w' => e = .returned (.int .u8 ((lo c).toNat : Int)) ∧ w' = w := by
  have hc256 : c.toNat < 256 := c.toNat_lt
  by_cases h1 : (65 : Int) ≤ c.toNat ∧ (c.toNat : Int) ≤ 90
  · rw [lo_big c h1.1 h1.2]
    obtain ⟨h1, h2⟩ := h1
    go_enter Try.func12, Try.ntmps12
    go_wp2
    go_ret
    exact ⟨rfl, rfl⟩
  · rw [lo_small c h1]
    by_cases h2 : (65 : Int) ≤ c.toNat
    · have h3 : ¬ (c.toNat : Int) ≤ 90 := fun h => h1 ⟨h2, h⟩
      clear h1
      go_enter Try.func12, Try.ntmps12
      go_wp2
      go_ret
      exact ⟨rfl, rfl⟩
    · clear h1
      go_enter Try.func12, Try.ntmps12
      go_wp2
      go_ret
      exact ⟨rfl, rfl⟩

set_option maxHeartbeats 400000 in
theorem next_any (s : ByteArray) (i : Nat) (w : World) (hi : i ≤ s.size) (hm : s.size ≤ 140737488355328) :
    Calls Try.prog 11 #[.string s, .int .i64 (i : Int)] w fun e w' => e = .returned (.int .i64 (nxt s.data.toList i : Nat)) ∧ w' = w := by
  have hL : Hid (s.data.toList.length = s.size) := size_l s
  go_enter Try.func11, Try.ntmps11
  go_wp2
  go_loop [1] (fun t => ∃ k : Nat, k ≤ s.size ∧ t = .int .i64 k ∧ Hid (nxt s.data.toList i = nxt s.data.toList k)) (fun t => s.size - (intOf t).toNat)
  case atStart => exact ⟨i, hi, rfl, rfl⟩
  case round =>
    obtain ⟨k, hk, rfl, hn⟩ := hrel
    by_cases hlt : k < s.size
    · have hkl : k < s.data.toList.length := by rw [hL.out]; exact hlt
      by_cases hbl : bl s[k] = true
      · have HN : Hid (nxt s.data.toList i = nxt s.data.toList (k + 1)) := by unfold Hid; rw [hn.out, nxt_step _ k hkl hbl]
        go_wp2_with (go_at_call 21; refine (lblank_any _ _).mono ?_; rintro e w' ⟨rfl, rfl⟩; rw [hbl])
        go_round
        case rel => exact ⟨k + 1, by omega, by go_num, HN⟩
        case measure => simp [intOf]; omega
      · have hbl' : bl s[k] = false := by simpa using hbl
        have HN : Hid (nxt s.data.toList i = k) := by unfold Hid; rw [hn.out, nxt_stop _ k hkl hbl']
        clear hbl
        go_wp2_with (go_at_call 21; refine (lblank_any _ _).mono ?_; rintro e w' ⟨rfl, rfl⟩; rw [hbl'])
        go_ret
        exact ⟨ret_int (by rw [HN.out]), rfl⟩
    · have HN : Hid (nxt s.data.toList i = k) := by unfold Hid; rw [hn.out, nxt_end _ k (by rw [hL.out]; exact hlt)]
      go_wp2
      go_ret
      exact ⟨ret_int (by rw [HN.out]), rfl⟩
end Go.Proofs.Ythgpinamglpniab
