import Derived.Test.YtgjjmpijplpnnaaBnM
import Derived.Test.YtgjjmpijplpnnaaBnRow
import Derived.Test.YtgjjmpijplpnnaaBJoin5
import Derived.Test.YtgjjmpijplpnnaaBwSm
import Derived.Lib.AppendZeros
namespace Go.Proofs.Ytgjjmpijplpnnaa
open Go.RowKit BnI
set_option linter.unusedVariables false

theorem meas_up (k i : Nat) (h : i < k) : k - ((i : Int) + 1).toNat < k - (i : Int).toNat := by omega
theorem meas_up2 (k i : Nat) (h : i < k) : k - (i + 1) < k - i := by omega
theorem join_zero (c : Nat) (inner : ByteArray) (hc : c ≤ 3) (hi : inner.size ≤ 1048576) (W : World) :
    Calls Try.prog 9 #[.agg #[.int .i64 (c : Int), .bool false, .int .i64 4, .string inner]] W fun r w' => r = .returned (.tuple #[.string (S (nst c inner.data.toList 0)), .int .i64 0]) ∧ Below W.heap.size W w' := by
  have h := join_good c 4 false inner W hc (by omega) (by unfold fineB; simp; omega) (by omega)
  have e : fb c false 4 :: lenB inner.size ++ inner.data.toList = nst c inner.data.toList 0 := by
    rw [hdr_short]
    show _ = hdrL c false 4 inner.data.toList.length (ll inner.data.toList.length) ++ inner.data.toList
    rw [size_l]
  rw [e] at h
  exact h
theorem join_succ (c : Nat) (L : List UInt8) (i : Nat) (hL : (nst c L i).length ≤ 4294967295) (W : World) :
    Calls Try.prog 9 #[.agg #[.int .i64 0, .bool true, .int .i64 16, .string (S (nst c L i))]] W fun r w' => r = .returned (.tuple #[.string (S (nst c L (i + 1))), .int .i64 0]) ∧ Below W.heap.size W w' := by
  have h := join_good 0 16 true (S (nst c L i)) W (by omega) (by omega) (by decide) (by rw [S_size]; omega)
  have e : fb 0 true 16 :: lenB (S (nst c L i)).size ++ (S (nst c L i)).data.toList = nst c L (i + 1) := by
    rw [hdr_short, S_size, S_l]
    rfl
  rw [e] at h
  exact h
/-- The lengths of the first ones. -/
def lens (c : Nat) (L : List UInt8) (i : Nat) : List Int := (List.range (i + 1)).map (fun j => ((nst c L j).length : Int))
theorem lens_len (c : Nat) (L : List UInt8) (i : Nat) : (lens c L i).length = i + 1 := by simp [lens]
theorem lens_zero (c : Nat) (L : List UInt8) : lens c L 0 = [((nst c L 0).length : Int)] := rfl
theorem lens_succ (c : Nat) (L : List UInt8) (i : Nat) : lens c L (i + 1) = lens c L i ++ [((nst c L (i + 1)).length : Int)] := by
  unfold lens
  rw [List.range_succ, List.map_append]
  rfl
theorem lens_at (c : Nat) (L : List UInt8) (i j : Nat) (h : j < (lens c L i).length) : (lens c L i)[j] = ((nst c L j).length : Int) := by simp [lens]
theorem eq_node (d c : Int) (m : Bool) (t : Int) (s : ByteArray) (W : World) :
    (binOp .eql 33 (.agg #[.int .i64 d, .int .i64 c, .bool m, .int .i64 t, .string s]) (.agg #[.int .i64 d, .int .i64 c, .bool m, .int .i64 t, .string s])).run Try.prog W = .ok (.bool true) W := by
  have hS : Try.prog.underlying 33 = some (.struct (Try.prog.fieldsOf 33)) := by kernel_rfl
  have hp : Try.prog.stoodInHeld 33 = false := by kernel_rfl
  rw [run_eql_struct, run_equalIn_struct _ _ _ _ _ hS hp]
  simp only [Program.fieldsOf, Try.underlying33]
  simp [Op.eqFields, go_sem]
set_option maxRecDepth 100000 in
set_option maxHeartbeats 2000000 in
theorem berNest_walk (inner : ByteArray) (cl n : Int) (w : World) (hz : inner.size ≤ 140737488355328) :
    Calls Try.prog 3 #[.string inner, .int .i64 cl, .int .i64 n] w fun e w' => e = .returned (.bool true) ∧ Below w.heap.size w w' := by
  have HR0 : Hid (Below w.heap.size w w) := Below.refl _ _
  by_cases z1 : n < 0
  · go_enter Try.func3, Try.ntmps3
    go_wp2_with fail
    go_ret
    exact ⟨rfl, HR0.out⟩
  by_cases z2 : n > 200
  · go_enter Try.func3, Try.ntmps3
    go_wp2_with fail
    go_ret
    exact ⟨rfl, HR0.out⟩
  by_cases z3 : (inner.size : Int) > 1048576
  · go_enter Try.func3, Try.ntmps3
    go_wp2_with fail
    go_ret
    exact ⟨rfl, HR0.out⟩
  obtain ⟨k, rfl⟩ : ∃ k : Nat, n = (k : Int) := ⟨n.toNat, by omega⟩
  obtain ⟨c, hc⟩ : ∃ c : Nat, cl % 4 = (c : Int) := ⟨(cl % 4).toNat, by omega⟩
  have hand : bits .and .i64 cl 3 = (c : Int) := by rw [i64_and3, hc]
  have hk : Hid (k ≤ 200) := by unfold Hid; omega
  have hsz : Hid (inner.size ≤ 1048576) := by unfold Hid; omega
  have hc3 : Hid (c ≤ 3) := by unfold Hid; omega
  have hlen : Hid (∀ i, i ≤ 200 → (nst c inner.data.toList i).length ≤ 2097152) := fun i hi => by
    have h1 := nst_len c inner.data.toList i
    rw [size_l] at h1
    have := hsz.out
    omega
  have HJ : Hid (Calls Try.prog 9 #[.agg #[.int .i64 (c : Int), .bool false, .int .i64 4, .string inner]] w fun r w' => r = .returned (.tuple #[.string (S (nst c inner.data.toList 0)), .int .i64 0]) ∧ Below w.heap.size w w') := join_zero c inner hc3.out hsz.out w
  have HT := tree_nst c inner hc3.out hsz.out k hk.out
  obtain ⟨L, hL⟩ : ∃ L, inner.data.toList = L := ⟨_, rfl⟩
  rw [hL] at hlen HJ HT
  have HT' : Hid ((k ≤ 63 → ∃ xs, treeR (S (nst c L k)) = .ok xs ∧ xs.map (ndOf (S (nst c L k))) = nsts c inner 1 k) ∧ (63 < k → treeR (S (nst c L k)) = .error (25, (nst c L k).length - (nst c L (k - 64)).length))) := HT
  clear hz hc hL HT
  go_enter Try.func3, Try.ntmps3
  go_wp2_with fail
  refine HJ.out.mono ?_
  rintro r w1 ⟨rfl, hb1⟩
  have HB1 : Hid (Below w.heap.size w w1) := hb1
  have hX0 : (S (nst c L 0)).size = (nst c L 0).length := S_size _
  clear hb1 HJ z1 z2 z3
  go_wp2_with fail
  go_loopw [7, 8, 9, 10] (fun sv ev lv iv wr => ∃ (i : Nat) (a : Option Addr) (m cc : Nat), sv = .string (S (nst c L i)) ∧ ev = .int .i64 0 ∧ lv = .slice a m cc ∧ iv = .int .i64 (i : Int) ∧ i ≤ k ∧ Hid (OwnI wr w1.heap.size (.slice a m cc) (lens c L i) ∧ Below w1.heap.size w1 wr)) (fun _ _ _ iv _ => k - (intOf iv).toNat)
  case atStart =>
    refine ⟨0, _, _, _, rfl, rfl, rfl, rfl, Nat.zero_le _, ?_, (Below.refl _ _).alloc (Nat.le_refl _) _⟩
    rw [lens_zero]
    exact lit_own w1 ((nst c L 0).length : Int)
  case round =>
    obtain ⟨i, a, m, cc, rfl, rfl, rfl, rfl, hi, HO⟩ := hrel
    have i0 : (0 : Int) ≤ (i : Int) := Int.natCast_nonneg _
    by_cases hlt : i < k
    · have i1 : (i : Int) < (k : Int) := Int.ofNat_lt.2 hlt
      have HJ : Hid (Calls Try.prog 9 #[.agg #[.int .i64 0, .bool true, .int .i64 16, .string (S (nst c L i))]] wr fun r w' => r = .returned (.tuple #[.string (S (nst c L (i + 1))), .int .i64 0]) ∧ Below wr.heap.size wr w') := join_succ c L i (by have := hlen.out i (by have := hk.out; omega); omega) wr
      have hlt' : Hid (i < k) := hlt
      clear hi hlt hX0
      go_wp2_with fail
      refine HJ.out.mono ?_
      rintro r w2 ⟨rfl, hb2⟩
      have hX1 : (S (nst c L (i + 1))).size = (nst c L (i + 1)).length := S_size _
      obtain ⟨X, hX⟩ : ∃ X, X = S (nst c L (i + 1)) := ⟨_, rfl⟩
      rw [← hX] at hX1 ⊢
      have h2 : OwnI w2 w1.heap.size (.slice a m cc) (lens c L i) ∧ Below w1.heap.size w1 w2 := ⟨ownI_below HO.out.1 hb2, HO.out.2.trans (hb2.mono HO.out.2.size)⟩
      obtain ⟨v5, w5, e5, o5, b5⟩ := appendI_row (w2.alloc (.cells #[.int .i64 (X.size : Int)] 3)) w1.heap.size (.slice a m cc) _ [(X.size : Int)] (some ⟨w2.heap.size, 0, none⟩) 1 1 (World.ownsRow.alloc h2.1 _) (lit_row w2 [(X.size : Int)] 3) rfl (by have := h2.2.size; simp; omega) (by rw [lens_len]; have := hk.out; have := hlt'.out; simp only [List.length_cons, List.length_nil]; omega)
      obtain ⟨a5, n5, c5, rfl⟩ := ownI_slice o5
      have hfin : Hid (OwnI w5 w1.heap.size (.slice a5 n5 c5) (lens c L (i + 1)) ∧ Below w1.heap.size w1 w5) := ⟨by rw [lens_succ, ← hX1]; exact o5, h2.2.trans (((Below.refl _ _).alloc h2.2.size _).trans b5)⟩
      have hX' : Hid (X = S (nst c L (i + 1))) := hX
      have hkw : Hid (wrap64 ((i : Int) + 1) = (i : Int) + 1) := by unfold Hid wrap64; have := hk.out; have := hlt'.out; omega
      clear hX hX1 h2 o5 b5 HO hb2 HJ
      go_wp2_with (at_builtin; refine Lib.wpList_append_run _ rfl _ _ _ _ rfl _ _ rfl rfl _ _ e5 ?_; clear e5)
      go_roundw
      case rel => exact ⟨i + 1, _, _, _, by rw [hX'.out], rfl, rfl, congrArg (Value.int .i64) (by first | (rw [hkw.out]; omega) | omega), hlt'.out, hfin⟩
      case measure => rw [hkw.out]; exact meas_up k i hlt'.out
    · obtain rfl : i = k := by omega
      have i1 : ¬ (i : Int) < (i : Int) := by omega
      have hXl : (S (nst c L i)).size = (nst c L i).length := S_size _
      have hXb := hlen.out i hk.out
      have hiw : Hid (wrap64 ((i : Int) + 1) = (i : Int) + 1) := by unfold Hid wrap64; have := hk.out; omega
      clear hi hlt hX0
      by_cases hd : i ≤ 63
      · have T1 : Hid (Calls Try.prog 10 #[.string (S (nst c L i))] wr fun r w' => (∃ v, r = .returned (.tuple #[v, .int .i64 0, .int .i64 0]) ∧ OwnN w' wr.heap.size v (nsts c inner 1 i)) ∧ Below wr.heap.size wr w') := tree_yes (by rw [hXl]; omega) (HT'.out.1 hd)
        have HBr : Hid (Below w.heap.size w wr) := HB1.out.trans (HO.out.2.mono HB1.out.size)
        have hd' : Hid (i ≤ 63) := hd
        have d1 : ¬ ((i : Int) + 1 > 64) := by omega
        have hiw' := hiw.out
        clear hd HT' HO hXl hXb hlen hk
        go_wp2_with fail
        refine T1.out.mono ?_
        rintro r w4 ⟨⟨v, rfl, hov⟩, hb4⟩
        have HB4 : Hid (Below w.heap.size w w4) := HBr.out.trans (hb4.mono HBr.out.size)
        obtain ⟨va, vc, rfl, hrow⟩ := ownN_any hov
        rw [nsts_len] at *
        have HR : Hid (NdRow w4 va (nsts c inner 1 i)) := hrow
        clear hrow hov hb4 T1 HBr
        go_wp2_with fail
        go_loopw [14] (fun jv wq => ∃ (j q : Nat), jv = .int .i64 (j : Int) ∧ j ≤ i ∧ Hid (wq = w4.drewN q)) (fun jv _ => i - (intOf jv).toNat)
        case atStart => exact ⟨0, 0, rfl, Nat.zero_le _, rfl⟩
        case round =>
          obtain ⟨j, q, rfl, hj, hw⟩ := hrel
          have j0 : (0 : Int) ≤ (j : Int) := Int.natCast_nonneg _
          have hjl : j < (nsts c inner 1 i).length := by rw [nsts_len]; omega
          obtain ⟨b1, o1, rfl, x0, x1, x2, x3, x4⟩ := HR.out j hjl
          have hE : ∀ a, wr.cell? a = w4.cell? a := fun a => by rw [hw.out]; rfl
          rw [← hE] at x0 x1 x2 x3 x4
          have hjw : Hid (wrap64 ((j : Int) + 1) = (j : Int) + 1) := by unfold Hid wrap64; have := hd'.out; omega
          have j2 : (j : Int) < ((i + 1 : Nat) : Int) := by omega
          by_cases hlt : j < i
          · have j1 : (j : Int) < (i : Int) := Int.ofNat_lt.2 hlt
            have hx := (nsts_at c inner i 1 j hjl).1 hlt
            rw [hx] at x0 x1 x2 x3 x4
            dsimp only at x0 x1 x2 x3 x4
            have hdd : ((1 + j : Nat) : Int) = (j : Int) + 1 := by omega
            rw [hdd] at x0
            have hnq := fun W => ne_node ((j : Int) + 1) 0 true 16 ⟨#[]⟩ W
            have hlt' : Hid (j < i) := hlt
            have hjw' := hjw.out
            clear hE hx hjl hj hlt HR hdd
            go_wp2_with fail
            go_roundw
            case rel => exact ⟨j + 1, q, congrArg (Value.int .i64) (by omega), hlt'.out, hw⟩
            case measure => exact meas_up i j hlt'.out
          · obtain rfl : j = i := by omega
            have j1 : ¬ (j : Int) < (j : Int) := by omega
            have hx := (nsts_at c inner j 1 j hjl).2 rfl
            rw [hx] at x0 x1 x2 x3 x4
            dsimp only at x0 x1 x2 x3 x4
            have hdd : ((1 + j : Nat) : Int) = (j : Int) + 1 := by omega
            rw [hdd] at x0
            have heq := fun W => eq_node ((j : Int) + 1) (c : Int) false 4 inner W
            have hfin : Hid (Below w.heap.size w wr) := by
              unfold Hid
              rw [hw.out]
              exact HB4.out.trans ⟨rfl, rfl, rfl, Nat.le_refl _, fun _ _ => rfl⟩
            clear hE hx hjl hj hlt HR hdd hw
            go_wp2_with fail
            go_ret
            exact ⟨rfl, hfin.out⟩
      · obtain ⟨e, he⟩ : ∃ e, i - 64 = e := ⟨_, rfl⟩
        have hie : i = e + 64 := by omega
        have hT2 := HT'.out.2 (by omega)
        rw [he] at hT2
        have T2 : Hid (Calls Try.prog 10 #[.string (S (nst c L i))] wr fun r w' => r = .returned (.tuple #[.slice none 0 0, .int .i64 25, .int .i64 (((nst c L i).length - (nst c L e).length : Nat) : Int)]) ∧ Below wr.heap.size wr w') := tree_no (by rw [hXl]; omega) hT2
        have HBr : Hid (Below w.heap.size w wr) := HB1.out.trans (HO.out.2.mono HB1.out.size)
        have hmn := nst_mono c L i e (by omega)
        obtain ⟨Z, hZ⟩ : ∃ Z, (nst c L e).length = Z := ⟨_, rfl⟩
        rw [hZ] at T2 hmn
        obtain ⟨X, hX⟩ : ∃ X, S (nst c L i) = X := ⟨_, rfl⟩
        rw [← hXl] at T2 hmn hXb
        rw [hX] at T2 hmn hXb ⊢
        have d1 : (i : Int) + 1 > 64 := by omega
        have hsub : wrap64 ((i : Int) - 64) = (e : Int) := by unfold wrap64; have := hk.out; omega
        have hAZ : wrap64 ((X.size : Int) - (Z : Int)) = ((X.size - Z : Nat) : Int) := by unfold wrap64; omega
        have hO : Hid (OwnI wr w1.heap.size (.slice a m cc) (lens c L i)) := HO.out.1
        have hiw' := hiw.out
        have hei : Hid (e < i + 1) := by unfold Hid; omega
        clear hd HT' HO hlen hmn hXb hT2 hie he hX hXl hiw
        go_wp2_with fail
        refine T2.out.mono ?_
        rintro r w4 ⟨rfl, hb4⟩
        have HB4 : Hid (Below w.heap.size w w4) := HBr.out.trans (hb4.mono HBr.out.size)
        have hO4 := ownI_below hO.out hb4
        obtain ⟨hrow, hm⟩ := ownI_row hO4
        obtain ⟨b, off, rfl, hcell⟩ := hrow e (by rw [lens_len]; exact hei.out)
        rw [lens_at, hZ] at hcell
        rw [lens_len] at hm
        have e0 : (0 : Int) ≤ (e : Int) := Int.natCast_nonneg _
        have e1 : (e : Int) < (m : Int) := by have := hei.out; omega
        clear hrow hO4 hO hb4 T2 HBr hm hZ hei
        go_wp2_with fail
        go_ret
        exact ⟨rfl, HB4.out⟩
end Go.Proofs.Ytgjjmpijplpnnaa
