import Derived.Test.YtoomoicjoockjaaGreatDoorBaseMath
namespace Go.Proofs.YtoomoicjoockjaaGreatDoor
namespace TextMath

/-- The worth of a character. -/
def bo (c : UInt8) : Option Nat :=
  if 65 ≤ c.toNat ∧ c.toNat ≤ 90 then some (c.toNat - 65)
  else if 97 ≤ c.toNat ∧ c.toNat ≤ 122 then some (c.toNat - 71)
  else if 48 ≤ c.toNat ∧ c.toNat ≤ 57 then some (c.toNat + 4)
  else if c.toNat = 43 then some 62 else if c.toNat = 47 then some 63 else none
def wv (c : UInt8) : Nat := (bo c).getD 0
def ch (c : UInt8) : Bool := (bo c).isSome

theorem bo_al (n : Nat) (h : n < 64) : bo (al n) = some n := by
  have e := al_toNat n h
  unfold bo; rw [e]
  by_cases h1 : n < 26
  · rw [if_pos h1, if_pos (by omega)]; congr 1; omega
  · rw [if_neg h1]
    by_cases h2 : n < 52
    · rw [if_pos h2, if_neg (by omega), if_pos (by omega)]; congr 1; omega
    · rw [if_neg h2]
      by_cases h3 : n < 62
      · rw [if_pos h3, if_neg (by omega), if_neg (by omega), if_pos (by omega)]; congr 1; omega
      · rw [if_neg h3]
        by_cases h4 : n = 62
        · rw [if_pos h4, if_neg (by omega), if_neg (by omega), if_neg (by omega), if_pos rfl, h4]
        · rw [if_neg h4, if_neg (by omega), if_neg (by omega), if_neg (by omega), if_neg (by omega), if_pos rfl]; congr 1; omega
theorem al_bo (c : UInt8) (n : Nat) (h : bo c = some n) : n < 64 ∧ al n = c := by
  have hn : n < 64 := by
    unfold bo at h
    repeat' split at h
    all_goals first | (injection h with h; omega) | cases h
  refine ⟨hn, UInt8.toNat_inj.1 ?_⟩
  rw [al_toNat n hn]
  unfold bo at h
  repeat' split at h
  · injection h with h; rw [if_pos (by omega)]; omega
  · injection h with h; rw [if_neg (by omega), if_pos (by omega)]; omega
  · injection h with h; rw [if_neg (by omega), if_neg (by omega), if_pos (by omega)]; omega
  · injection h with h; rw [if_neg (by omega), if_neg (by omega), if_neg (by omega), if_pos (by omega)]; omega
  · injection h with h; rw [if_neg (by omega), if_neg (by omega), if_neg (by omega), if_neg (by omega)]; omega
  · cases h
theorem bo_pad : bo 61 = none := by decide
theorem ch_pad : ch 61 = false := by decide
theorem ch_wv (c : UInt8) (h : ch c = true) : bo c = some (wv c) ∧ wv c < 64 ∧ al (wv c) = c ∧ c ≠ 61 := by
  unfold ch at h
  obtain ⟨n, hn⟩ := Option.isSome_iff_exists.1 h
  have := al_bo c n hn
  have e : wv c = n := by unfold wv; rw [hn]; rfl
  rw [e]
  exact ⟨hn, this.1, this.2, fun h61 => by rw [h61, bo_pad] at hn; cases hn⟩
theorem ch_al (n : Nat) (h : n < 64) : ch (al n) = true ∧ wv (al n) = n := by
  unfold ch wv; rw [bo_al n h]; exact ⟨rfl, rfl⟩

/-- The good fronts of a group. -/
def Gd : List UInt8 → Bool
  | [] => true
  | [x] => ch x
  | [x, y] => ch x && ch y
  | [x, y, z] => ch x && ch y && (ch z || (z == 61 && wv y % 16 == 0))
  | [x, y, z, t] => ch x && ch y && ((ch z && (ch t || (t == 61 && wv z % 4 == 0))) || (z == 61 && wv y % 16 == 0 && t == 61))
  | _ => false
/-- How many bytes of a group stand where they can. -/
def gF (g : List UInt8) : Nat :=
  if 1 ≤ g.length ∧ Gd (g.take 1) = true then
    if 2 ≤ g.length ∧ Gd (g.take 2) = true then
      if 3 ≤ g.length ∧ Gd (g.take 3) = true then
        if 4 ≤ g.length ∧ Gd (g.take 4) = true then 4 else 3
      else 2
    else 1
  else 0
/-- The bytes that a good group means. -/
def dec : List UInt8 → List UInt8
  | [x, y, z, t] =>
    if t ≠ 61 then [UInt8.ofNat (wv x * 4 + wv y / 16), UInt8.ofNat (wv y % 16 * 16 + wv z / 4), UInt8.ofNat (wv z % 4 * 64 + wv t)]
    else if z ≠ 61 then [UInt8.ofNat (wv x * 4 + wv y / 16), UInt8.ofNat (wv y % 16 * 16 + wv z / 4)]
    else [UInt8.ofNat (wv x * 4 + wv y / 16)]
  | _ => []

theorem ofN (b : UInt8) (n : Nat) (h : n = b.toNat) : UInt8.ofNat n = b := by rw [h]; simp
theorem al_ne (n : Nat) (h : n < 64) : al n ≠ 61 := (ch_wv _ (ch_al n h).1).2.2.2

theorem grp_good1 (x : UInt8) : Gd (grp [x]) = true ∧ dec (grp [x]) = [x] := by
  have hx := x.toNat_lt
  obtain ⟨c0, v0⟩ := ch_al (x.toNat / 4) (by omega)
  obtain ⟨c1, v1⟩ := ch_al (x.toNat % 4 * 16) (by omega)
  refine ⟨?_, ?_⟩
  · simp only [grp, Gd, c0, c1, v1]; simp
  · simp only [grp, dec, v0, v1]
    rw [if_neg (by simp), if_neg (by simp)]
    congr 1; exact ofN _ _ (by omega)
theorem grp_good2 (x y : UInt8) : Gd (grp [x, y]) = true ∧ dec (grp [x, y]) = [x, y] := by
  have hx := x.toNat_lt
  have hy := y.toNat_lt
  obtain ⟨c0, v0⟩ := ch_al (x.toNat / 4) (by omega)
  obtain ⟨c1, v1⟩ := ch_al (x.toNat % 4 * 16 + y.toNat / 16) (by omega)
  obtain ⟨c2, v2⟩ := ch_al (y.toNat % 16 * 4) (by omega)
  have n2 := al_ne (y.toNat % 16 * 4) (by omega)
  refine ⟨?_, ?_⟩
  · simp only [grp, Gd, c0, c1, c2, v2]; simp
  · simp only [grp, dec, v0, v1, v2]
    rw [if_neg (by simp), if_pos n2]
    congr 1
    · exact ofN _ _ (by omega)
    · congr 1; exact ofN _ _ (by omega)
theorem grp_good3 (x y z : UInt8) : Gd (grp [x, y, z]) = true ∧ dec (grp [x, y, z]) = [x, y, z] := by
  have hx := x.toNat_lt
  have hy := y.toNat_lt
  have hz := z.toNat_lt
  obtain ⟨c0, v0⟩ := ch_al (x.toNat / 4) (by omega)
  obtain ⟨c1, v1⟩ := ch_al (x.toNat % 4 * 16 + y.toNat / 16) (by omega)
  obtain ⟨c2, v2⟩ := ch_al (y.toNat % 16 * 4 + z.toNat / 64) (by omega)
  obtain ⟨c3, v3⟩ := ch_al (z.toNat % 64) (by omega)
  have n3 := al_ne (z.toNat % 64) (by omega)
  refine ⟨?_, ?_⟩
  · simp only [grp, Gd, c0, c1, c2, c3]; simp
  · simp only [grp, dec, v0, v1, v2, v3]
    rw [if_pos n3]
    congr 1
    · exact ofN _ _ (by omega)
    · congr 1
      · exact ofN _ _ (by omega)
      · congr 1; exact ofN _ _ (by omega)

theorem toN (n : Nat) (h : n < 256) : (UInt8.ofNat n).toNat = n := by rw [UInt8.toNat_ofNat']; omega
/-- A good group is the group of what it means. -/
theorem good_grp (x y z t : UInt8) (h : Gd [x, y, z, t] = true) : grp (dec [x, y, z, t]) = [x, y, z, t] ∧ (t = 61 → (dec [x, y, z, t]).length ≤ 2) ∧ (t ≠ 61 → (dec [x, y, z, t]).length = 3) ∧ dec [x, y, z, t] ≠ [] ∧ (dec [x, y, z, t]).length ≤ 3 := by
  simp only [Gd, Bool.and_eq_true, Bool.or_eq_true, beq_iff_eq] at h
  obtain ⟨⟨hx, hy⟩, hr⟩ := h
  obtain ⟨_, bx, ax, _⟩ := ch_wv x hx
  obtain ⟨_, by_, ay, _⟩ := ch_wv y hy
  rcases hr with ⟨hz, ht⟩ | ⟨⟨hz, hy16⟩, ht⟩
  · obtain ⟨_, bz, az, nz⟩ := ch_wv z hz
    rcases ht with ht | ⟨ht, hz4⟩
    · obtain ⟨_, bt, at_, nt⟩ := ch_wv t ht
      simp only [dec]
      rw [if_pos nt]
      refine ⟨?_, fun e => absurd e nt, fun _ => rfl, by simp, by simp⟩
      simp only [grp]
      rw [toN _ (by omega), toN _ (by omega), toN _ (by omega)]
      have e0 : (wv x * 4 + wv y / 16) / 4 = wv x := by omega
      have e1 : (wv x * 4 + wv y / 16) % 4 * 16 + (wv y % 16 * 16 + wv z / 4) / 16 = wv y := by omega
      have e2 : (wv y % 16 * 16 + wv z / 4) % 16 * 4 + (wv z % 4 * 64 + wv t) / 64 = wv z := by omega
      have e3 : (wv z % 4 * 64 + wv t) % 64 = wv t := by omega
      rw [e0, e1, e2, e3, ax, ay, az, at_]
    · subst ht
      simp only [dec]
      rw [if_neg (by simp), if_pos nz]
      refine ⟨?_, fun _ => by simp, fun e => absurd rfl e, by simp, by simp⟩
      simp only [grp]
      rw [toN _ (by omega), toN _ (by omega)]
      have e0 : (wv x * 4 + wv y / 16) / 4 = wv x := by omega
      have e1 : (wv x * 4 + wv y / 16) % 4 * 16 + (wv y % 16 * 16 + wv z / 4) / 16 = wv y := by omega
      have e2 : (wv y % 16 * 16 + wv z / 4) % 16 * 4 = wv z := by omega
      rw [e0, e1, e2, ax, ay, az]
  · subst hz ht
    simp only [dec]
    rw [if_neg (by simp), if_neg (by simp)]
    refine ⟨?_, fun _ => by simp, fun e => absurd rfl e, by simp, by simp⟩
    simp only [grp]
    rw [toN _ (by omega)]
    have e0 : (wv x * 4 + wv y / 16) / 4 = wv x := by omega
    have e1 : (wv x * 4 + wv y / 16) % 4 * 16 = wv y := by omega
    rw [e0, e1, ax, ay]

/-- The good front of a whole good group. -/
theorem Gd_front (x y z t : UInt8) (h : Gd [x, y, z, t] = true) : Gd [x] = true ∧ Gd [x, y] = true ∧ Gd [x, y, z] = true := by
  simp only [Gd, Bool.and_eq_true, Bool.or_eq_true, beq_iff_eq] at h ⊢
  obtain ⟨⟨hx, hy⟩, hr⟩ := h
  refine ⟨hx, ⟨hx, hy⟩, ⟨hx, hy⟩, ?_⟩
  rcases hr with ⟨hz, _⟩ | ⟨⟨hz, hy16⟩, _⟩
  · exact Or.inl hz
  · exact Or.inr ⟨hz, hy16⟩
theorem gF_four (g : List UInt8) (h : gF g = 4) : 4 ≤ g.length ∧ Gd (g.take 4) = true := by
  unfold gF at h
  split at h
  · split at h
    · split at h
      · split at h
        · assumption
        · omega
      · omega
    · omega
  · omega
theorem gF_good (x y z t : UInt8) (r : List UInt8) (h : Gd [x, y, z, t] = true) : gF (x :: y :: z :: t :: r) = 4 := by
  obtain ⟨h1, h2, h3⟩ := Gd_front x y z t h
  unfold gF
  simp [h, h1, h2, h3]
theorem gF_le (g : List UInt8) : gF g ≤ 4 ∧ gF g ≤ g.length := by
  unfold gF
  repeat' split
  all_goals omega

def preB (o : List UInt8) : Except Nat (List UInt8) → Except Nat (List UInt8)
  | .ok t => .ok (o ++ t)
  | .error p => .error p
theorem preB_nil (r : Except Nat (List UInt8)) : preB [] r = r := by cases r <;> rfl
theorem preB_preB (o p : List UInt8) (r : Except Nat (List UInt8)) : preB o (preB p r) = preB (o ++ p) r := by cases r <;> simp [preB]
/-- Unbase64: the bytes, or the place. -/
def ub : Nat → List UInt8 → Nat → Except Nat (List UInt8)
  | 0, _, _ => .ok []
  | f + 1, l, k => if l.length = 0 then .ok [] else if gF (l.take 4) < 4 then .error (k + gF (l.take 4)) else if l.getD 3 0 = 61 ∧ 4 < l.length then .error (k + 4) else preB (dec (l.take 4)) (ub f (l.drop 4) (k + 4))
theorem ub_fuel : ∀ (f g : Nat) (l : List UInt8) (k : Nat), l.length ≤ f → l.length ≤ g → ub f l k = ub g l k
  | 0, 0, _, _, _, _ => rfl
  | 0, g + 1, l, k, h, _ => by simp [ub, Nat.le_zero.1 h]
  | f + 1, 0, l, k, _, h => by simp [ub, Nat.le_zero.1 h]
  | f + 1, g + 1, l, k, hf, hg => by
    unfold ub
    by_cases h0 : l.length = 0
    · simp [h0]
    · rw [if_neg h0, if_neg h0, ub_fuel f g (l.drop 4) (k + 4) (by simp; omega) (by simp; omega)]
def unb (l : List UInt8) (k : Nat) : Except Nat (List UInt8) := ub l.length l k
theorem unb_nil (k : Nat) : unb [] k = .ok [] := rfl
theorem unb_bad (l : List UInt8) (k : Nat) (h0 : l.length ≠ 0) (h : gF (l.take 4) < 4) : unb l k = .error (k + gF (l.take 4)) := by
  unfold unb
  obtain ⟨n, hn⟩ := Nat.exists_eq_succ_of_ne_zero h0
  rw [hn]; unfold ub; rw [if_neg h0, if_pos h]
theorem unb_behind (l : List UInt8) (k : Nat) (h0 : l.length ≠ 0) (h : ¬ gF (l.take 4) < 4) (h2 : l.getD 3 0 = 61 ∧ 4 < l.length) : unb l k = .error (k + 4) := by
  unfold unb
  obtain ⟨n, hn⟩ := Nat.exists_eq_succ_of_ne_zero h0
  rw [hn]; unfold ub; rw [if_neg h0, if_neg h, if_pos h2]
theorem unb_step (l : List UInt8) (k : Nat) (h0 : l.length ≠ 0) (h : ¬ gF (l.take 4) < 4) (h2 : ¬ (l.getD 3 0 = 61 ∧ 4 < l.length)) : unb l k = preB (dec (l.take 4)) (unb (l.drop 4) (k + 4)) := by
  obtain ⟨n, hn⟩ := Nat.exists_eq_succ_of_ne_zero h0
  have e : unb l k = ub (n + 1) l k := by unfold unb; rw [hn]
  rw [e]; unfold ub; rw [if_neg h0, if_neg h, if_neg h2]
  have e2 : ub n (l.drop 4) (k + 4) = unb (l.drop 4) (k + 4) := ub_fuel _ _ _ _ (by simp; omega) (by simp)
  rw [e2]

/-- What is written is read back. -/
theorem unb_b64 : ∀ (l : List UInt8) (k : Nat), unb (b64 l) k = .ok l
  | [], k => rfl
  | [x], k => by
    obtain ⟨h1, h2⟩ := grp_good1 x
    have hg : gF (grp [x]) = 4 := gF_good _ _ _ _ [] h1
    have e : b64 [x] = grp [x] := by simp [b64]
    rw [e, unb_step (grp [x]) k (by simp [grp]) (by rw [show (grp [x]).take 4 = grp [x] from rfl, hg]; omega) (by simp [grp])]
    rw [show (grp [x]).take 4 = grp [x] from rfl, h2, show (grp [x]).drop 4 = [] from rfl, unb_nil]; rfl
  | [x, y], k => by
    obtain ⟨h1, h2⟩ := grp_good2 x y
    have hg : gF (grp [x, y]) = 4 := gF_good _ _ _ _ [] h1
    have e : b64 [x, y] = grp [x, y] := by simp [b64]
    rw [e, unb_step (grp [x, y]) k (by simp [grp]) (by rw [show (grp [x, y]).take 4 = grp [x, y] from rfl, hg]; omega) (by simp [grp])]
    rw [show (grp [x, y]).take 4 = grp [x, y] from rfl, h2, show (grp [x, y]).drop 4 = [] from rfl, unb_nil]; rfl
  | x :: y :: z :: t, k => by
    obtain ⟨h1, h2⟩ := grp_good3 x y z
    have hz := z.toNat_lt
    have n3 := al_ne (z.toNat % 64) (by omega)
    have hg : gF (grp [x, y, z]) = 4 := gF_good _ _ _ _ [] h1
    have e : b64 (x :: y :: z :: t) = grp [x, y, z] ++ b64 t := by simp [b64]
    have et : (grp [x, y, z] ++ b64 t).take 4 = grp [x, y, z] := by simp [grp]
    have ed : (grp [x, y, z] ++ b64 t).drop 4 = b64 t := by simp [grp]
    rw [e, unb_step _ k (by simp [grp]) (by rw [et, hg]; omega) (by simp [grp, n3]), et, ed, h2, unb_b64 t (k + 4)]; rfl

theorem four (m : List UInt8) (h : 4 ≤ m.length) : ∃ x y z t r, m = x :: y :: z :: t :: r := by
  match m, h with
  | x :: y :: z :: t :: r, _ => exact ⟨x, y, z, t, r, rfl⟩
/-- Nothing else is taken. -/
theorem b64_unb : ∀ (f : Nat) (m : List UInt8) (k : Nat) (t : List UInt8), m.length ≤ f → unb m k = .ok t → b64 t = m
  | 0, m, k, t, hf, h => by
    have : m = [] := List.eq_nil_of_length_eq_zero (by omega)
    subst this; rw [unb_nil] at h; injection h with h; subst h; rfl
  | f + 1, m, k, t, hf, h => by
    by_cases h0 : m.length = 0
    · have : m = [] := List.eq_nil_of_length_eq_zero h0
      subst this; rw [unb_nil] at h; injection h with h; subst h; rfl
    · by_cases hg : gF (m.take 4) < 4
      · rw [unb_bad m k h0 hg] at h; cases h
      · by_cases h2 : m.getD 3 0 = 61 ∧ 4 < m.length
        · rw [unb_behind m k h0 hg h2] at h; cases h
        · rw [unb_step m k h0 hg h2] at h
          have hl := gF_le (m.take 4)
          have h4 := gF_four (m.take 4) (by omega)
          have hm4 : 4 ≤ m.length := by have := h4.1; simp at this; omega
          obtain ⟨x, y, z, c, r, rfl⟩ := four m hm4
          have hgd : Gd [x, y, z, c] = true := by simpa using h4.2
          obtain ⟨e1, e2, e3, e4, e5⟩ := good_grp x y z c hgd
          have et : (x :: y :: z :: c :: r).take 4 = [x, y, z, c] := by simp
          have ed : (x :: y :: z :: c :: r).drop 4 = r := by simp
          rw [et, ed] at h
          cases hr : unb r (k + 4) with
          | error p => rw [hr] at h; cases h
          | ok q =>
            rw [hr] at h
            simp only [preB] at h
            injection h with h
            have ih := b64_unb f r (k + 4) q (by simp at hf; omega) hr
            by_cases hc : c = 61
            · have hr0 : r = [] := by
                cases r with
                | nil => rfl
                | cons a b => exact absurd ⟨by simpa using hc, by simp⟩ h2
              subst hr0
              rw [unb_nil] at hr; injection hr with hr; subst hr
              rw [List.append_nil] at h
              rw [← h]
              have hlen := e2 hc
              match hd : dec [x, y, z, c], e4, hlen with
              | [a], _, _ => rw [hd] at e1; rw [← e1]; simp [b64]
              | [a, b], _, _ => rw [hd] at e1; rw [← e1]; simp [b64]
            · have hlen := e3 hc
              rw [← h]
              match hd : dec [x, y, z, c], hlen with
              | [a, b, d], _ =>
                rw [hd] at e1
                simp only [List.cons_append, List.nil_append, b64]
                rw [e1, ih]; rfl
end TextMath
end Go.Proofs.YtoomoicjoockjaaGreatDoor
