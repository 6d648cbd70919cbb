import Derived.Test.YtcngdlaaadijpaaLdRefd
namespace Go.Proofs.Ytcngdlaaadijpaa
open Go.RowKit
open LdMath

set_option maxRecDepth 100000 in
set_option maxHeartbeats 2000000 in
theorem rrefold_any (s : ByteArray) (hs : s.size ≤ 1048576) (d : Int) (hd : d ≤ 9223372036854775807) (w : World) :
    Calls Try.prog 9 #[.string s, .int .i64 d] w fun e w' => e = .returned (.tuple #[.string (S (rfT (phys s.data.toList) d)), .int .i64 ((rfE (phys s.data.toList) d).1 : Int), .int .i64 ((rfE (phys s.data.toList) d).2 : Int)]) ∧ Below w.heap.size w w' := by
  by_cases h2 : d < 2
  · have e1 : rfT (phys s.data.toList) d = [] := by unfold rfT; rw [if_pos h2]
    have e2 : rfE (phys s.data.toList) d = (1, 0) := by unfold rfE; rw [if_pos h2]
    rw [e1, e2]
    go_enter Try.func9, Try.ntmps9
    go_wp2_with fail
    go_ret3
    exact ⟨rfl, Below.refl _ _⟩
  · obtain ⟨k, rfl⟩ : ∃ k : Nat, d = (k : Int) := ⟨d.toNat, by omega⟩
    have hk : 2 ≤ k := by omega
    have hk2 : k ≤ 9223372036854775807 := by omega
    have e1 : rfT (phys s.data.toList) (k : Int) = flds k (outL (phys s.data.toList)) := by unfold rfT; rw [if_neg h2, Int.toNat_natCast]
    have e2 : rfE (phys s.data.toList) (k : Int) = outE (phys s.data.toList) := by unfold rfE; rw [if_neg h2]
    rw [e1, e2]
    have hU : Hid (Calls Try.prog 6 #[.string s] w fun e w' => ∃ v er ln, e = .returned (.tuple #[v, .int .i64 ((er : Nat) : Int), .int .i64 ((ln : Nat) : Int)]) ∧ UnfIs s.data.toList w.heap.size w' v er ln ∧ Below w.heap.size w w') := rlines_any s hs w
    have hlenP : (outL (phys s.data.toList)).length ≤ 1048577 := outL_len s hs
    have htot : ltot (outL (phys s.data.toList)) ≤ 1048576 := by
      have h1 := joinS_ltot (phys s.data.toList)
      have h2 := phys_tot s.data.toList
      rw [size_l] at h2
      unfold outL
      split
      · exact Nat.zero_le _
      · omega
    obtain ⟨PL, hPL⟩ : ∃ PL, phys s.data.toList = PL := ⟨_, rfl⟩
    unfold UnfIs at hU
    rw [hPL] at hU hlenP htot ⊢
    obtain ⟨L, hL⟩ : ∃ L, outL PL = L := ⟨_, rfl⟩
    obtain ⟨n, hn⟩ : ∃ n, L.length = n := ⟨_, rfl⟩
    obtain ⟨ex, hex⟩ : ∃ ex, (outE PL).1 = ex := ⟨_, rfl⟩
    obtain ⟨ey, hey⟩ : ∃ ey, (outE PL).2 = ey := ⟨_, rfl⟩
    have hor : (ex = 70 ∨ ex = 71) ∧ L = [] ∨ ex = 0 ∧ ey = 0 := by
      rw [← hex, ← hey, ← hL]
      unfold outE outL
      cases hf : ferr [] PL with
      | some p => exact .inl ⟨ferr_val PL [] p hf, rfl⟩
      | none => exact .inr ⟨rfl, rfl⟩
    rw [hL] at hlenP htot ⊢
    rw [hex, hey]
    have hU' : Hid (Calls Try.prog 6 #[.string s] w fun e w' => ∃ a c, e = .returned (.tuple #[.slice a n c, .int .i64 (ex : Int), .int .i64 (ey : Int)]) ∧ LinR w' a L ∧ Below w.heap.size w w') := by
      refine hU.out.mono ?_
      rintro e w' ⟨v, er, ln, rfl, h1, h2⟩
      obtain ⟨⟨a, c, rfl, h3⟩, rfl, rfl⟩ := unf_out h1
      rw [hL] at h3 ⊢
      rw [hn, hex, hey]
      exact ⟨a, c, rfl, h3, h2⟩
    have hH : Hid (L.length = n ∧ n ≤ 1048577 ∧ ltot L ≤ 1048576 ∧ 2 ≤ k ∧ k ≤ 9223372036854775807) := ⟨hn, by omega, htot, hk, hk2⟩
    have hk3 : ¬ ((k : Int) < 2) := h2
    clear hU hL hex hey hlenP htot hPL e1 e2 hn hk2 hs
    rcases hor with ⟨hor, rfl⟩ | ⟨rfl, rfl⟩
    · have hx0 : ((ex : Int) != 0) = true := by simp only [bne_iff_ne, ne_eq]; omega
      have hfl : Hid (flds k ([] : List (Nat × List UInt8)) = []) := rfl
      clear hor
      go_enter Try.func9, Try.ntmps9
      go_wp2_with (go_at_call 6; refine hU'.out.mono ?_; rintro e w1 ⟨a, c, rfl, hR, hb1⟩)
      go_ret3
      exact ⟨rfl, hb1⟩
    · go_enter Try.func9, Try.ntmps9
      go_wp2_with (go_at_call 6; refine hU'.out.mono ?_; rintro e w1 ⟨a, c, rfl, hR, hb1⟩)
      have hK : Hid (LinR w1 a L ∧ Below w.heap.size w w1) := ⟨hR, hb1⟩
      clear hR hb1 hU'
      go_loopw [10, 11] (fun bvv iv wr => ∃ i : Nat, i ≤ n ∧ iv = .int .i64 (i : Int) ∧ Hid (Own wr w1.heap.size bvv (flds k (L.take i))) ∧ Hid (Below w1.heap.size w1 wr)) (fun _ iv _ => n - (intOf iv).toNat)
      case atStart => exact ⟨0, Nat.zero_le _, rfl, own_nil _ _, Below.refl _ _⟩
      case round =>
        obtain ⟨i, hle, rfl, hO, hB⟩ := hrel
        obtain ⟨h1, h2, h3, h4, h5⟩ := hH.out
        obtain ⟨k1, k2⟩ := hK.out
        obtain ⟨ab, nb, cb, rfl⟩ := own_slice hO.out
        have i0 : (0 : Int) ≤ (i : Int) := Int.natCast_nonneg _
        have i1 : (i : Int) < 1048578 := by omega
        by_cases hlt : i < n
        · have hiL : i < L.length := by omega
          obtain ⟨g, rfl, c0, c1⟩ := (k1.below hB.out) i hiL
          obtain ⟨x, hx⟩ : ∃ x, L[i].2 = x := ⟨_, rfl⟩
          rw [hx] at c1
          have hft := flds_take k L i hiL
          rw [hx] at hft
          have hxl : x.length ≤ 1048576 := by
            have h6 := ltot_pre (List.take_prefix (i + 1) L)
            rw [take_next L i hiL, ltot_snoc, hx] at h6
            omega
          have hfl : (flds k (L.take i)).length ≤ 268435456 := by
            have h6 := flds_len k (L.take i)
            have h7 := ltot_pre (List.take_prefix i L)
            rw [List.length_take] at h6
            omega
          obtain ⟨F, hF⟩ : ∃ F, flds k (L.take i) = F := ⟨_, rfl⟩
          rw [hF] at hft hfl hO
          have hft' : Hid (flds k (L.take (i + 1)) = F ++ fld k x) := hft
          have i2 : (i : Int) < (n : Int) := by omega
          have hlt' : Hid (i < n) := hlt
          have hS : Hid (x.length ≤ 1048576 ∧ F.length ≤ 268435456 ∧ 2 ≤ k ∧ k ≤ 9223372036854775807) := ⟨hxl, hfl, h4, h5⟩
          obtain ⟨X, hX⟩ : ∃ X, S x = X := ⟨_, rfl⟩
          have hXd : Hid (X.data.toList = x ∧ x.length = X.size) := by unfold Hid; rw [← hX, S_l, S_size]; exact ⟨rfl, rfl⟩
          rw [hX] at c1
          clear h1 h2 h3 h4 h5 k1 k2 hiL hft hxl hfl hlt hle hd hx hF hX c0 hk
          go_wp2_with fail
          obtain ⟨W2, rfl⟩ : ∃ W2, W2 = wr := ⟨_, rfl⟩
          have hOs : Hid (Own W2 w1.heap.size (.slice ab nb cb) (F ++ rf k x 0)) := by unfold Hid; rw [show rf k x 0 = [] from rfl, List.append_nil]; exact hO.out
          go_loopw [10, 13] (fun bvv jv wz => ∃ j : Nat, j ≤ X.size ∧ jv = .int .i64 (j : Int) ∧ Hid (Own wz w1.heap.size bvv (F ++ rf k x j)) ∧ Hid (Below w1.heap.size w1 wz)) (fun _ jv _ => X.size - (intOf jv).toNat)
          case atStart => exact ⟨0, Nat.zero_le _, rfl, hOs, hB⟩
          case round =>
            clear hO hB hOs c1
            obtain ⟨j, hjle, rfl, hO, hB⟩ := hrel
            obtain ⟨aj, nj, cj, rfl⟩ := own_slice hO.out
            obtain ⟨s1, s2, s3, s4⟩ := hS.out
            obtain ⟨x1, x2⟩ := hXd.out
            have j0 : (0 : Int) ≤ (j : Int) := Int.natCast_nonneg _
            have j1 : (j : Int) < 1048578 := by omega
            have hwz : w1.heap.size ≤ wr.heap.size := hB.out.size
            have hfl : (F ++ rf k x j).length ≤ 300000000 := by
              have := rf_len k x j
              rw [List.length_append]
              omega
            by_cases hjlt : j < X.size
            · have j2 : (j : Int) < (X.size : Int) := by omega
              have hrs : rf k x (j + 1) = rf k x j ++ (brk k j ++ [(X[j]'hjlt)]) := by
                have hjx : j < x.length := by omega
                rw [rf_snoc k x j hjx]
                congr 3
                have h8 := get_at' X j hjlt
                rw [x1, List.getElem?_eq_getElem hjx] at h8
                injection h8
              obtain ⟨G, hG⟩ : ∃ G, F ++ rf k x j = G := ⟨_, rfl⟩
              have hEnd : Hid (F ++ rf k x (j + 1) = G ++ (brk k j ++ [(X[j]'hjlt)])) := by unfold Hid; rw [hrs, ← hG, List.append_assoc]
              rw [hG] at hO hfl
              have hO1 := hO.out
              have l1 : G.length ≤ 1099511627776 := by omega
              have l2 : (G ++ [10]).length ≤ 1099511627776 := by rw [List.length_append]; simp; omega
              have l3 : (G ++ [10] ++ [32]).length ≤ 1099511627776 := by rw [List.length_append, List.length_append]; simp; omega
              have hjlt' : Hid (j < X.size) := hjlt
              have l1' : Hid (G.length ≤ 1099511627776) := l1
              have l2' : Hid ((G ++ [10]).length ≤ 1099511627776) := l2
              have l3' : Hid ((G ++ [10] ++ [32]).length ≤ 1099511627776) := l3
              have hwz' : Hid (w1.heap.size ≤ wr.heap.size) := hwz
              have hB' : Hid (Below w1.heap.size w1 wr) := hB.out
              by_cases hkj : k ≤ j
              · obtain ⟨q, hq⟩ : ∃ q, j - k = q := ⟨_, rfl⟩
                obtain ⟨y, hy⟩ : ∃ y, k - 1 = y := ⟨_, rfl⟩
                obtain ⟨r, hr⟩ : ∃ r, q % y = r := ⟨_, rfl⟩
                have a1 : wrap64 ((j : Int) - (k : Int)) = (q : Int) := by unfold wrap64; omega
                have a2 : (j : Int) - (k : Int) = (q : Int) := by omega
                have a3 : wrap64 ((k : Int) - 1) = (y : Int) := by unfold wrap64; omega
                have a4 : (k : Int) - 1 = (y : Int) := by omega
                have a5 : (q : Int).tmod (y : Int) = (r : Int) := by rw [Int.tmod_eq_emod_of_nonneg (Int.natCast_nonneg _), ← hr]; rfl
                have a6 : ((y : Int) == 0) = false := by rw [beq_eq_false_iff_ne]; omega
                have a7 : ¬ (y : Int) = 0 := by omega
                have a8 : ¬ y = 0 := by omega
                by_cases hr0 : r = 0
                · have hbr : brk k j = [10, 32] := by unfold brk; rw [if_pos ⟨hkj, by rw [hq, hy, hr]; exact hr0⟩]
                  rw [hbr] at hEnd
                  subst hr0
                  clear hrs hG hfl s1 s2 s3 s4 x1 x2 hjle hO hB hwz hq hy hr hbr l1 l2 l3
                  go_wp2_with (first | (at_builtin; refine push_byte_at _ rfl _ _ rfl w1.heap.size _ G 10 _ rfl rfl rfl ?_ hwz'.out l1'.out ?_; (exact hO1); clear hO1; intro v5 w5 hO5 hb5; have z5 := Nat.le_trans hwz'.out hb5.size) | (at_builtin; refine push_byte_at _ rfl _ _ rfl w1.heap.size _ (G ++ [10]) 32 _ rfl rfl rfl ?_ z5 l2'.out ?_; (exact hO5); clear hO5; intro v6 w6 hO6 hb6; have z6 := Nat.le_trans z5 hb6.size) | (at_builtin; refine push_byte_at _ rfl _ _ rfl w1.heap.size _ (G ++ [10] ++ [32]) (X[j]'hjlt) _ rfl rfl rfl ?_ z6 l3'.out ?_; (exact hO6); clear hO6; intro v7 w7 hO7 hb7))
                  have hB7 : Hid (Below w1.heap.size w1 w7) := hB'.out.trans (hb5.trans (hb6.trans hb7))
                  have hO8 : Hid (Own w7 w1.heap.size v7 (F ++ rf k x (j + 1))) := by unfold Hid; rw [hEnd.out]; simpa using hO7
                  go_roundw
                  case rel => exact ⟨j + 1, hjlt'.out, by simp, hO8, hB7⟩
                  case measure => have := hjlt'.out; simp [intOf]; omega
                · have hbr : brk k j = [] := by unfold brk; rw [if_neg (fun h => hr0 (by rw [hq, hy, hr] at h; exact h.2))]
                  rw [hbr] at hEnd
                  have a9 : ((r : Int) == 0) = false := by rw [beq_eq_false_iff_ne]; omega
                  clear hrs hG hfl s1 s2 s3 s4 x1 x2 hjle hO hB hwz hq hy hr hbr l1 l2 l3 hr0
                  go_wp2_with (at_builtin; refine push_byte_at _ rfl _ _ rfl w1.heap.size _ G (X[j]'hjlt) _ rfl rfl rfl ?_ hwz'.out l1'.out ?_; (exact hO1); clear hO1; intro v7 w7 hO7 hb7)
                  have hB7 : Hid (Below w1.heap.size w1 w7) := hB'.out.trans hb7
                  have hO8 : Hid (Own w7 w1.heap.size v7 (F ++ rf k x (j + 1))) := by unfold Hid; rw [hEnd.out]; simpa using hO7
                  go_roundw
                  case rel => exact ⟨j + 1, hjlt'.out, by simp, hO8, hB7⟩
                  case measure => have := hjlt'.out; simp [intOf]; omega
              · have hbr : brk k j = [] := by unfold brk; rw [if_neg (fun h => hkj h.1)]
                rw [hbr] at hEnd
                clear hrs hG hfl s1 s2 s3 s4 x1 x2 hjle hO hB hwz hbr l1 l2 l3
                go_wp2_with (at_builtin; refine push_byte_at _ rfl _ _ rfl w1.heap.size _ G (X[j]'hjlt) _ rfl rfl rfl ?_ hwz'.out l1'.out ?_; (exact hO1); clear hO1; intro v7 w7 hO7 hb7)
                have hB7 : Hid (Below w1.heap.size w1 w7) := hB'.out.trans hb7
                have hO8 : Hid (Own w7 w1.heap.size v7 (F ++ rf k x (j + 1))) := by unfold Hid; rw [hEnd.out]; simpa using hO7
                go_roundw
                case rel => exact ⟨j + 1, hjlt'.out, by simp, hO8, hB7⟩
                case measure => have := hjlt'.out; simp [intOf]; omega
            · have hje : j = X.size := by omega
              subst hje
              have hO1 := hO.out
              have hEnd : Hid (flds k (L.take (i + 1)) = F ++ rf k x X.size ++ [10]) := by
                unfold Hid
                rw [hft'.out, List.append_assoc]
                unfold fld
                rw [x2]
              have hB' : Hid (Below w1.heap.size w1 wr) := hB.out
              have hwz' : Hid (w1.heap.size ≤ wr.heap.size) := hwz
              have l1' : Hid ((F ++ rf k x X.size).length ≤ 1099511627776) := by unfold Hid; omega
              clear hfl s1 s2 s3 s4 x1 x2 hjle hO hB hwz hjlt j0 j1
              go_wp2_with (at_builtin; refine push_byte_at _ rfl _ _ rfl w1.heap.size _ (F ++ rf k x X.size) 10 _ rfl rfl rfl ?_ hwz'.out l1'.out ?_; (exact hO1); clear hO1; intro v7 w7 hO7 hb7)
              have hB7 : Hid (Below w1.heap.size w1 w7) := hB'.out.trans hb7
              have hO8 : Hid (Own w7 w1.heap.size v7 (flds k (L.take (i + 1)))) := by unfold Hid; rw [hEnd.out]; exact hO7
              go_roundw
              case rel => exact ⟨i + 1, hlt'.out, by simp, hO8, hB7⟩
              case measure => have := hlt'.out; simp [intOf]; omega
        · have hie : n = i := by omega
          subst hie
          have hOf := hO.out
          rw [List.take_of_length_le (by omega)] at hOf
          have hcv := own_conv hOf
          have hfin : Hid (Below w.heap.size w wr) := k2.trans (hB.out.mono k2.size)
          clear h1 h2 h3 h4 h5 k1 k2 hO hB hOf hlt hle hd i0 i1
          go_wp2_with fail
          go_ret3
          exact ⟨rfl, hfin.out⟩
end Go.Proofs.Ytcngdlaaadijpaa
