import Derived.Test.YthgpinamglpniabChkMath
namespace Go.Proofs.Ythgpinamglpniab
namespace TextMath

/-- A number in the form of k bytes. -/
def wd (n : Nat) : Nat → List UInt8
  | 1 => [UInt8.ofNat n]
  | 2 => [UInt8.ofNat (192 + n / 64), UInt8.ofNat (128 + n % 64)]
  | 3 => [UInt8.ofNat (224 + n / 4096), UInt8.ofNat (128 + n / 64 % 64), UInt8.ofNat (128 + n % 64)]
  | _ => [UInt8.ofNat (240 + n / 262144), UInt8.ofNat (128 + n / 4096 % 64), UInt8.ofNat (128 + n / 64 % 64), UInt8.ofNat (128 + n % 64)]
/-- The fewest bytes. -/
def nd (n : Nat) : Nat := if n < 128 then 1 else if n < 2048 then 2 else if n < 65536 then 3 else 4
/-- A form that is none of UTF-8. -/
def wr (n k : Nat) : Bool := decide (nd n < k) || (decide (55296 ≤ n) && decide (n ≤ 57343)) || decide (1114111 < n)

theorem u_of (n : Nat) (h : n < 256) : u (UInt8.ofNat n) = (n : Int) := by
  unfold u; rw [UInt8.toNat_ofNat', Nat.mod_eq_of_lt (by omega)]
theorem nd_cases (n : Nat) : (nd n = 1 ∧ n < 128) ∨ (nd n = 2 ∧ 128 ≤ n ∧ n < 2048) ∨ (nd n = 3 ∧ 2048 ≤ n ∧ n < 65536) ∨ (nd n = 4 ∧ 65536 ≤ n) := by
  unfold nd; repeat' split
  all_goals omega

theorem wd_len (n k : Nat) (h1 : 1 ≤ k) (h4 : k ≤ 4) : (wd n k).length = k := by
  have : k = 1 ∨ k = 2 ∨ k = 3 ∨ k = 4 := by omega
  rcases this with rfl | rfl | rfl | rfl <;> rfl

theorem wi_t (b lo hi : Int) (h1 : lo ≤ b) (h2 : b ≤ hi) : wi b lo hi = true := by unfold wi; simp [h1, h2]
theorem wi_f (b lo hi : Int) (h : b < lo ∨ hi < b) : wi b lo hi = false := by unfold wi; simp; omega

theorem seq1 (x : UInt8) (b : List UInt8) (h : u x ≤ 127) : seqLen (x :: b) = 1 := by
  unfold seqLen
  have e : (x :: b).getD 0 0 = x := rfl
  rw [e]
  have hl : ld (u x) = (1, 0, 0) := by unfold ld; rw [if_pos h]
  rw [hl]
  simp
  omega

theorem seq_bad0 (x : UInt8) (b : List UInt8) (h : (ld (u x)).1 = 0) : seqLen (x :: b) = 0 := by
  unfold seqLen
  have e : (x :: b).getD 0 0 = x := rfl
  simp only [e, h]
  simp

theorem seq2 (x y : UInt8) (b : List UInt8) (lo hi : Int) (h : ld (u x) = (2, lo, hi)) : seqLen (x :: y :: b) = if wi (u y) lo hi = true then 2 else 0 := by
  unfold seqLen
  have e : (x :: y :: b).getD 0 0 = x := rfl
  have e1 : (x :: y :: b).getD 1 0 = y := rfl
  simp only [e, e1, h]
  cases wi (u y) lo hi <;> simp
  all_goals omega
theorem seq3 (x y z : UInt8) (b : List UInt8) (lo hi : Int) (h : ld (u x) = (3, lo, hi)) : seqLen (x :: y :: z :: b) = if wi (u z) 128 191 = true ∧ wi (u y) lo hi = true then 3 else 0 := by
  unfold seqLen
  have e : (x :: y :: z :: b).getD 0 0 = x := rfl
  have e1 : (x :: y :: z :: b).getD 1 0 = y := rfl
  have e2 : (x :: y :: z :: b).getD 2 0 = z := rfl
  simp only [e, e1, e2, h]
  cases wi (u z) 128 191 <;> cases wi (u y) lo hi <;> simp
  all_goals omega
theorem seq4 (x y z t : UInt8) (b : List UInt8) (lo hi : Int) (h : ld (u x) = (4, lo, hi)) : seqLen (x :: y :: z :: t :: b) = if wi (u t) 128 191 = true ∧ wi (u z) 128 191 = true ∧ wi (u y) lo hi = true then 4 else 0 := by
  unfold seqLen
  have e : (x :: y :: z :: t :: b).getD 0 0 = x := rfl
  have e1 : (x :: y :: z :: t :: b).getD 1 0 = y := rfl
  have e2 : (x :: y :: z :: t :: b).getD 2 0 = z := rfl
  have e3 : (x :: y :: z :: t :: b).getD 3 0 = t := rfl
  simp only [e, e1, e2, e3, h]
  cases wi (u t) 128 191 <;> cases wi (u z) 128 191 <;> cases wi (u y) lo hi <;> simp
  all_goals omega

set_option maxHeartbeats 4000000 in
theorem wd_good (n k : Nat) (hn : n < 2097152) (hk : k = nd n) (hw : wr n k = false) (b : List UInt8) : seqLen (wd n k ++ b) = k := by
  have hw' : ¬ (55296 ≤ n ∧ n ≤ 57343) ∧ ¬ 1114111 < n := by unfold wr at hw; simp at hw; omega
  rcases nd_cases n with ⟨e, h⟩ | ⟨e, h⟩ | ⟨e, h⟩ | ⟨e, h⟩
  all_goals rw [e] at hk; subst hk
  · show seqLen (UInt8.ofNat n :: b) = 1
    exact seq1 _ _ (by rw [u_of _ (by omega)]; omega)
  · have hl : ld (u (UInt8.ofNat (192 + n / 64))) = (2, 128, 191) := by
      rw [u_of _ (by omega)]; unfold ld; repeat' split
      all_goals first | rfl | (exfalso; omega)
    show seqLen (UInt8.ofNat (192 + n / 64) :: UInt8.ofNat (128 + n % 64) :: b) = 2
    rw [seq2 _ _ _ _ _ hl, if_pos (wi_t _ _ _ (by rw [u_of _ (by omega)]; omega) (by rw [u_of _ (by omega)]; omega))]
  · have h3 : wi (u (UInt8.ofNat (128 + n % 64))) 128 191 = true := wi_t _ _ _ (by rw [u_of _ (by omega)]; omega) (by rw [u_of _ (by omega)]; omega)
    have hl : ∃ lo hi, ld (u (UInt8.ofNat (224 + n / 4096))) = (3, lo, hi) ∧ lo ≤ ((128 + n / 64 % 64 : Nat) : Int) ∧ ((128 + n / 64 % 64 : Nat) : Int) ≤ hi := by
      rw [u_of _ (by omega)]; unfold ld; repeat' split
      all_goals first | exact ⟨_, _, rfl, by omega, by omega⟩ | (exfalso; omega)
    obtain ⟨lo, hi, hl, b1, b2⟩ := hl
    show seqLen (UInt8.ofNat (224 + n / 4096) :: UInt8.ofNat (128 + n / 64 % 64) :: UInt8.ofNat (128 + n % 64) :: b) = 3
    rw [seq3 _ _ _ _ _ _ hl, if_pos ⟨h3, wi_t _ _ _ (by rw [u_of _ (by omega)]; exact b1) (by rw [u_of _ (by omega)]; exact b2)⟩]
  · have h4 : wi (u (UInt8.ofNat (128 + n % 64))) 128 191 = true := wi_t _ _ _ (by rw [u_of _ (by omega)]; omega) (by rw [u_of _ (by omega)]; omega)
    have h3 : wi (u (UInt8.ofNat (128 + n / 64 % 64))) 128 191 = true := wi_t _ _ _ (by rw [u_of _ (by omega)]; omega) (by rw [u_of _ (by omega)]; omega)
    have hl : ∃ lo hi, ld (u (UInt8.ofNat (240 + n / 262144))) = (4, lo, hi) ∧ lo ≤ ((128 + n / 4096 % 64 : Nat) : Int) ∧ ((128 + n / 4096 % 64 : Nat) : Int) ≤ hi := by
      rw [u_of _ (by omega)]; unfold ld; repeat' split
      all_goals first | exact ⟨_, _, rfl, by omega, by omega⟩ | (exfalso; omega)
    obtain ⟨lo, hi, hl, b1, b2⟩ := hl
    show seqLen (UInt8.ofNat (240 + n / 262144) :: UInt8.ofNat (128 + n / 4096 % 64) :: UInt8.ofNat (128 + n / 64 % 64) :: UInt8.ofNat (128 + n % 64) :: b) = 4
    rw [seq4 _ _ _ _ _ _ _ hl, if_pos ⟨h4, h3, wi_t _ _ _ (by rw [u_of _ (by omega)]; exact b1) (by rw [u_of _ (by omega)]; exact b2)⟩]

set_option maxHeartbeats 4000000 in
theorem wd_bad (n k : Nat) (hn : n < 2097152) (h1 : nd n ≤ k) (h4 : k ≤ 4) (hw : wr n k = true) (b : List UInt8) : seqLen (wd n k ++ b) = 0 := by
  have hw' : nd n < k ∨ (55296 ≤ n ∧ n ≤ 57343) ∨ 1114111 < n := by unfold wr at hw; simp at hw; omega
  have hc := nd_cases n
  have hk : k = 1 ∨ k = 2 ∨ k = 3 ∨ k = 4 := by omega
  rcases hk with rfl | rfl | rfl | rfl
  · exfalso; omega
  · have hl : (ld (u (UInt8.ofNat (192 + n / 64)))).1 = 0 := by
      rw [u_of _ (by omega)]; unfold ld; repeat' split
      all_goals first | rfl | (exfalso; omega)
    exact seq_bad0 _ _ hl
  · have hl : ∃ lo hi, ld (u (UInt8.ofNat (224 + n / 4096))) = (3, lo, hi) ∧ (((128 + n / 64 % 64 : Nat) : Int) < lo ∨ hi < ((128 + n / 64 % 64 : Nat) : Int)) := by
      rw [u_of _ (by omega)]; unfold ld; repeat' split
      all_goals first | exact ⟨_, _, rfl, by omega⟩ | (exfalso; omega)
    obtain ⟨lo, hi, hl, b1⟩ := hl
    show seqLen (UInt8.ofNat (224 + n / 4096) :: UInt8.ofNat (128 + n / 64 % 64) :: UInt8.ofNat (128 + n % 64) :: b) = 0
    rw [seq3 _ _ _ _ _ _ hl, if_neg (by rw [wi_f (u (UInt8.ofNat (128 + n / 64 % 64))) lo hi (by rw [u_of _ (by omega)]; exact b1)]; simp)]
  · have hl : (ld (u (UInt8.ofNat (240 + n / 262144)))).1 = 0 ∨ ∃ lo hi, ld (u (UInt8.ofNat (240 + n / 262144))) = (4, lo, hi) ∧ (((128 + n / 4096 % 64 : Nat) : Int) < lo ∨ hi < ((128 + n / 4096 % 64 : Nat) : Int)) := by
      rw [u_of _ (by omega)]; unfold ld; repeat' split
      all_goals first | exact Or.inr ⟨_, _, rfl, by omega⟩ | exact Or.inl rfl | (exfalso; omega)
    rcases hl with hl | ⟨lo, hi, hl, b1⟩
    · exact seq_bad0 _ _ hl
    · show seqLen (UInt8.ofNat (240 + n / 262144) :: UInt8.ofNat (128 + n / 4096 % 64) :: UInt8.ofNat (128 + n / 64 % 64) :: UInt8.ofNat (128 + n % 64) :: b) = 0
      rw [seq4 _ _ _ _ _ _ _ hl, if_neg (by rw [wi_f (u (UInt8.ofNat (128 + n / 4096 % 64))) lo hi (by rw [u_of _ (by omega)]; exact b1)]; simp)]

/-- How the walk stands: no form so far was wrong; or the first wrong one stands at p. -/
def St (s : List UInt8) (bad : Int) : Prop := (bad = -1 ∧ (check s).1 = true) ∨ ∃ p : Nat, bad = (p : Int) ∧ ∀ b, check (s ++ b) = (false, p)

theorem St_nil : St [] (-1) := Or.inl ⟨rfl, rfl⟩
theorem St_good (s : List UInt8) (bad : Int) (n k : Nat) (h : St s bad) (hn : n < 2097152) (h1 : nd n ≤ k) (hw : wr n k = false) : St (s ++ wd n k) bad := by
  rcases h with ⟨rfl, hc⟩ | ⟨p, rfl, hp⟩
  · refine Or.inl ⟨rfl, ?_⟩
    have hk : k = nd n := by unfold wr at hw; simp at hw; omega
    have hg := wd_good n k hn hk hw []
    rw [List.append_nil] at hg
    have hk1 : 1 ≤ k ∧ k ≤ 4 := by have := nd_cases n; omega
    rw [check_app_good _ _ hc, check_good _ (by rw [hg]; omega), hg, List.drop_of_length_le (by rw [wd_len n k hk1.1 hk1.2]; omega)]
    rfl
  · refine Or.inr ⟨p, rfl, fun b => ?_⟩
    rw [List.append_assoc]; exact hp _
theorem St_keep (s : List UInt8) (bad : Int) (m : List UInt8) (h : St s bad) (hb : ¬ bad < 0) : St (s ++ m) bad := by
  rcases h with ⟨rfl, _⟩ | ⟨p, rfl, hp⟩
  · exact absurd (by decide) hb
  · refine Or.inr ⟨p, rfl, fun b => ?_⟩
    rw [List.append_assoc]; exact hp _
theorem St_bad (s : List UInt8) (bad : Int) (n k : Nat) (h : St s bad) (hn : n < 2097152) (h1 : nd n ≤ k) (h4 : k ≤ 4) (hw : wr n k = true) (hb : bad < 0) : St (s ++ wd n k) (s.length : Int) := by
  rcases h with ⟨rfl, hc⟩ | ⟨p, rfl, hp⟩
  · refine Or.inr ⟨s.length, rfl, fun b => ?_⟩
    have hk1 : 1 ≤ k := by have := nd_cases n; omega
    rw [List.append_assoc, check_app_good _ _ hc, check_bad _ (by rw [List.length_append, wd_len n k hk1 h4]; omega) (wd_bad n k hn h1 h4 hw b)]
    rfl
  · exfalso; omega
/-- What Check answers at the end. -/
theorem St_end (s : List UInt8) (bad : Int) (h : St s bad) : (bad < 0 ∧ check s = (true, s.length)) ∨ (∃ p : Nat, bad = (p : Int) ∧ check s = (false, p)) := by
  rcases h with ⟨rfl, hc⟩ | ⟨p, rfl, hp⟩
  · refine Or.inl ⟨by decide, ?_⟩
    have := (check_place s).2.1 hc
    rw [← hc, ← this]
  · have := hp []
    rw [List.append_nil] at this
    exact Or.inr ⟨p, rfl, this⟩
end TextMath
end Go.Proofs.Ythgpinamglpniab
