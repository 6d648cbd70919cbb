import Derived.Test.YtkcncepfncdbhaaDoorUbMath
namespace Go.Proofs.YtkcncepfncdbhaaDoor
namespace TextMath

/-- The three bytes that four characters say, whatever they are. -/
def thr (x y z t : UInt8) : List UInt8 := [UInt8.ofNat (wv x * 4 + wv y / 16), UInt8.ofNat (wv y % 16 * 16 + wv z / 4), UInt8.ofNat (wv z % 4 * 64 + wv t)]
theorem wv_lt (c : UInt8) : wv c < 64 := by
  by_cases h : ch c = true
  · exact (ch_wv c h).2.1
  · unfold wv
    have : bo c = none := by
      unfold ch at h
      cases e : bo c with
      | none => rfl
      | some n => rw [e] at h; exact absurd rfl h
    rw [this]
    decide
theorem dec_thr (x y z t : UInt8) : dec [x, y, z, t] = (thr x y z t).take (dec [x, y, z, t]).length := by
  simp only [dec, thr]
  split
  · rfl
  · split <;> rfl
theorem thr_match (x y z t : UInt8) (j : Nat) (h1 : 1 ≤ j) (h3 : j ≤ 3) : grp ((thr x y z t).take j) = [x, y, z, t] ↔ (Gd [x, y, z, t] = true ∧ j = (dec [x, y, z, t]).length) := by
  constructor
  · intro h
    have key : Gd (grp ((thr x y z t).take j)) = true ∧ dec (grp ((thr x y z t).take j)) = (thr x y z t).take j := by
      have : j = 1 ∨ j = 2 ∨ j = 3 := by omega
      rcases this with rfl | rfl | rfl
      · exact grp_good1 _
      · exact grp_good2 _ _
      · exact grp_good3 _ _ _
    rw [h] at key
    refine ⟨key.1, ?_⟩
    rw [key.2, List.length_take]
    simp [thr]
    omega
  · rintro ⟨hg, hj⟩
    rw [hj, ← dec_thr]
    exact (good_grp x y z t hg).1
/-- The number of a group. -/
def gn : List UInt8 → Nat
  | [x] => x.toNat * 65536
  | [x, y] => x.toNat * 65536 + y.toNat * 256
  | [x, y, z] => x.toNat * 65536 + y.toNat * 256 + z.toNat
  | _ => 0
theorem grp_gn1 (x : UInt8) : grp [x] = [al (gn [x] / 262144), al (gn [x] / 4096 % 64), 61, 61] := by
  have h := x.toNat_lt
  simp only [grp, gn]
  have e0 : x.toNat * 65536 / 262144 = x.toNat / 4 := by omega
  have e1 : x.toNat * 65536 / 4096 % 64 = x.toNat % 4 * 16 := by omega
  rw [e0, e1]
theorem grp_gn2 (x y : UInt8) : grp [x, y] = [al (gn [x, y] / 262144), al (gn [x, y] / 4096 % 64), al (gn [x, y] / 64 % 64), 61] := by
  have h := x.toNat_lt
  have h' := y.toNat_lt
  simp only [grp, gn]
  have e0 : (x.toNat * 65536 + y.toNat * 256) / 262144 = x.toNat / 4 := by omega
  have e1 : (x.toNat * 65536 + y.toNat * 256) / 4096 % 64 = x.toNat % 4 * 16 + y.toNat / 16 := by omega
  have e2 : (x.toNat * 65536 + y.toNat * 256) / 64 % 64 = y.toNat % 16 * 4 := by omega
  rw [e0, e1, e2]
theorem grp_gn3 (x y z : UInt8) : grp [x, y, z] = [al (gn [x, y, z] / 262144), al (gn [x, y, z] / 4096 % 64), al (gn [x, y, z] / 64 % 64), al (gn [x, y, z] % 64)] := by
  have h := x.toNat_lt
  have h' := y.toNat_lt
  have h'' := z.toNat_lt
  simp only [grp, gn]
  have e0 : (x.toNat * 65536 + y.toNat * 256 + z.toNat) / 262144 = x.toNat / 4 := by omega
  have e1 : (x.toNat * 65536 + y.toNat * 256 + z.toNat) / 4096 % 64 = x.toNat % 4 * 16 + y.toNat / 16 := by omega
  have e2 : (x.toNat * 65536 + y.toNat * 256 + z.toNat) / 64 % 64 = y.toNat % 16 * 4 + z.toNat / 64 := by omega
  have e3 : (x.toNat * 65536 + y.toNat * 256 + z.toNat) % 64 = z.toNat % 64 := by omega
  rw [e0, e1, e2, e3]
theorem ch_A : ch 65 = true := by decide
theorem front1 (x : UInt8) : Gd ([x] ++ [65, 65, 65]) = Gd [x] := by simp [Gd, ch_A]
theorem front2 (x y : UInt8) : Gd ([x, y] ++ [65, 65]) = Gd [x, y] := by simp [Gd, ch_A]
theorem front3 (x y z : UInt8) : (Gd ([x, y, z] ++ [61]) || Gd ([x, y, z] ++ [65])) = Gd [x, y, z] := by
  have h6 : ((65 : UInt8) == 61) = false := by decide
  simp only [List.cons_append, List.nil_append, Gd, ch_A, ch_pad, h6]
  cases ch x <;> cases ch y <;> cases ch z <;> simp
theorem thr_num (x y z t : UInt8) : ((wv x * 64 + wv y) * 64 + wv z) * 64 + wv t < 16777216 ∧
    (((wv x * 64 + wv y) * 64 + wv z) * 64 + wv t) / 65536 = wv x * 4 + wv y / 16 ∧ (((wv x * 64 + wv y) * 64 + wv z) * 64 + wv t) / 256 % 256 = wv y % 16 * 16 + wv z / 4 ∧ (((wv x * 64 + wv y) * 64 + wv z) * 64 + wv t) % 256 = wv z % 4 * 64 + wv t := by
  have h1 := wv_lt x
  have h2 := wv_lt y
  have h3 := wv_lt z
  have h4 := wv_lt t
  omega
end TextMath
end Go.Proofs.YtkcncepfncdbhaaDoor
