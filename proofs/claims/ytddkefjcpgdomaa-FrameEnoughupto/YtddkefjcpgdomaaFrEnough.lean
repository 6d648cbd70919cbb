import Derived.Test.YtddkefjcpgdomaaFrAsk
namespace Go.Proofs.Ytddkefjcpgdomaa
open Go.RowKit
open FrMath (Hdr lb bd within Out ends cut Cut)

set_option maxHeartbeats 1600000 in
theorem frameEnough_walk (lim : Int) (b more : ByteArray) (w : World) (hm : b.size + more.size ≤ 1048576) :
    Calls Try.prog 3 #[.int .i64 lim, .string b, .string more] w fun e w' => e = .returned (.bool true) ∧ Below w.heap.size w w' := by
  have H0 : ∀ W, Hid (Calls Try.prog 9 #[.int .i64 lim, .string ⟨#[]⟩] W fun r w' => r = .returned (.int .i64 2) ∧ Below W.heap.size W w') := fun W => frameNeed_any lim ⟨#[]⟩ W (by decide)
  have H1 : ∀ W, Hid (Calls Try.prog 9 #[.int .i64 lim, .string b] W fun r w' => r = .returned (.int .i64 (needN lim b.data.toList : Int)) ∧ Below W.heap.size W w') := fun W => frameNeed_any lim b W (by omega)
  have hbl := size_l b
  by_cases hE : ends lim b.data.toList
  · by_cases he : (FrMath.look lim b.data.toList).er = 0
    · have hlt : b.data.toList.length < (FrMath.look lim b.data.toList).sz := by rcases hE with h | h; exact absurd he h; exact h
      have hEc := FrMath.Cut_end lim _ hE
      rw [he] at hEc
      have A1 : Hid (asks lim b ⟨[], 0, 0⟩) := asks_of lim b _ (by omega) hEc
      obtain ⟨n, hn⟩ : ∃ n, needN lim b.data.toList = n := ⟨_, rfl⟩
      rw [hn] at H1
      have hnz : b.size + n = (FrMath.look lim b.data.toList).sz := by unfold needN at hn; omega
      rw [hbl] at hlt
      have n0 : 0 < n := by omega
      have d1 : ((n : Int) == 0) = false := by rw [beq_eq_false_iff_ne]; omega
      have d2 : decide ((n : Int) < 0) = false := decide_eq_false (by omega)
      by_cases hmn : more.size < n
      · obtain ⟨o, ho, hoe⟩ : ∃ o, Cut lim (b ++ more).data.toList = o ∧ o.ms = [] := ⟨_, rfl, by
          rw [app_l]
          refine enough_none lim _ _ he ?_
          rw [List.length_append, hbl, size_l]
          omega⟩
        obtain ⟨ms, at_, er⟩ := o
        simp only at hoe
        subst hoe
        have A2 : Hid (asks lim (b ++ more) ⟨[], at_, er⟩) := asks_of lim _ _ (by rw [ByteArray.size_append]; omega) ho
        clear hE he hn hbl hnz hlt hEc ho n0
        go_enter Try.func3, Try.ntmps3
        go_wp2_with fail
        refine (H1 _).out.mono ?_
        rintro r w1 ⟨rfl, HB⟩
        go_wp2_with fail
        refine (H0 _).out.mono ?_
        rintro r w2 ⟨rfl, hb2⟩
        replace HB := HB.trans (hb2.mono HB.size)
        clear hb2
        go_wp2_with fail
        refine (A1.out _).mono ?_
        rintro r w3 ⟨⟨v, rfl, hown⟩, hb3⟩
        obtain ⟨ad, cp, rfl⟩ := ownS_len hown
        replace HB := HB.trans (hb3.mono HB.size)
        clear hb3 hown
        go_wp2_with fail
        replace HB := HB.alloc HB.size (.cells #[.slice ad ([] : List (List UInt8)).length cp, .int .i64 0, .int .i64 0] 26)
        refine (A2.out _).mono ?_
        rintro r w4 ⟨⟨v, rfl, hown⟩, hb4⟩
        obtain ⟨ad2, cp2, rfl⟩ := ownS_len hown
        replace HB := HB.trans (hb4.mono HB.size)
        clear hb4 hown
        go_wp2_with fail
        go_ret
        exact ⟨rfl, HB.alloc HB.size _⟩
      · obtain ⟨N, rfl⟩ : ∃ N, n = N + 1 := ⟨n - 1, by omega⟩
        have hTs : (more.extract 0 (N + 1)).size = N + 1 := by rw [ByteArray.size_extract]; omega
        have hTs2 : (more.extract 0 N).size = N := by rw [ByteArray.size_extract]; omega
        obtain ⟨o3, ho3, hoe3⟩ : ∃ o, Cut lim (b ++ more.extract 0 N).data.toList = o ∧ o.ms = [] := ⟨_, rfl, by
          rw [app_l]
          refine enough_none lim _ _ he ?_
          rw [List.length_append, hbl, size_l, hTs2]
          omega⟩
        obtain ⟨ms3, at3, er3⟩ := o3
        simp only at hoe3
        subst hoe3
        have A3 : Hid (asks lim (b ++ more.extract 0 N) ⟨[], at3, er3⟩) := asks_of lim _ _ (by rw [ByteArray.size_append]; omega) ho3
        have m0 : (0 : Int) ≤ ((N + 1 : Nat) : Int) := Int.natCast_nonneg _
        have m1 : ((N + 1 : Nat) : Int) ≤ (more.size : Int) := by omega
        have m3 : (N : Int) ≤ (more.size : Int) := by omega
        have hwh : (6 < b.size ∨ (1 < b.size ∧ lb b.data.toList 1 < 128)) ∨ ¬ (6 < b.size ∨ (1 < b.size ∧ lb b.data.toList 1 < 128)) := Classical.em _
        obtain ⟨Y, hY⟩ : ∃ Y, b ++ more.extract 0 (N + 1) = Y := ⟨_, rfl⟩
        rcases hwh with hwh | hwh
        · have hmi := whole_mi lim b.data.toList he (by rw [hbl]; exact hwh)
          have hone := enough_one lim b.data.toList (more.extract 0 (N + 1)).data.toList he hmi (by rw [List.length_append, hbl, size_l, hTs]; exact hnz)
          rw [← app_l, hY] at hone
          have A2 : Hid (asks lim Y ⟨[Y.data.toList], (FrMath.look lim b.data.toList).sz, 0⟩) := asks_of lim _ _ (by rw [← hY, ByteArray.size_append]; omega) hone
          have d3 : (decide ((6 : Int) < (b.size : Int)) = true) ∨ (decide ((6 : Int) < (b.size : Int)) = false ∧ decide ((1 : Int) < (b.size : Int)) = true ∧ ∃ h : 1 < b.size, decide ((b[1].toNat : Int) < 128) = true) := by
            rcases hwh with h | ⟨h, h'⟩
            · exact Or.inl (decide_eq_true (by omega))
            · by_cases h6 : 6 < b.size
              · exact Or.inl (decide_eq_true (by omega))
              · refine Or.inr ⟨decide_eq_false (by omega), decide_eq_true (by omega), h, decide_eq_true ?_⟩
                rw [lb_s b 1 h] at h'
                omega
          have hYs : Y.size ≤ 1048576 := by rw [← hY, ByteArray.size_append]; omega
          have hYS : S Y.data.toList = Y := S_of Y
          generalize (FrMath.look lim b.data.toList).sz = z at *
          clear hE he hn hbl hnz hlt hEc hone hmi ho3 hwh n0
          have hY' : Hid (S Y.data.toList = Y) := hYS
          clear hYS
          go_enter Try.func3, Try.ntmps3
          go_wp2_with fail
          refine (H1 _).out.mono ?_
          rintro r w1 ⟨rfl, HB⟩
          go_wp2_with fail
          refine (H0 _).out.mono ?_
          rintro r w2 ⟨rfl, hb2⟩
          replace HB := HB.trans (hb2.mono HB.size)
          clear hb2
          go_wp2_with fail
          refine (A1.out _).mono ?_
          rintro r w3 ⟨⟨v, rfl, hown⟩, hb3⟩
          obtain ⟨ad, cp, rfl⟩ := ownS_len hown
          replace HB := HB.trans (hb3.mono HB.size)
          clear hb3 hown
          go_wp2_with fail
          replace HB := HB.alloc HB.size (.cells #[.slice ad ([] : List (List UInt8)).length cp, .int .i64 0, .int .i64 0] 26)
          refine (A2.out _).mono ?_
          rintro r w4 ⟨⟨v, rfl, hown⟩, hb4⟩
          replace HB := HB.trans (hb4.mono HB.size)
          replace hown : OwnS w4 (w3.alloc (.cells #[.slice ad ([] : List (List UInt8)).length cp, .int .i64 0, .int .i64 0] 26)).heap.size v [Y.data.toList] := hown
          rcases ownS_form hown with ⟨_, hc⟩ | ⟨g, cap, rfl⟩
          · cases hc
          have hc0 : w4.cell? ⟨g, 0, none⟩ = some (.string Y) := ownS_one hown hY'.out
          have hg : g < w4.heap.size := World.block_lt_of_cell? w4 _ hc0
          clear hb4 hown A1 A2 H0 H1
          rcases d3 with d3 | ⟨d3, d4, h1, d5⟩
          · go_wp2_with fail
            go_quiet (fail)
            go_wp2_with fail
            refine (A3.out _).mono ?_
            rintro r w5 ⟨⟨v, rfl, hown⟩, hb5⟩
            obtain ⟨ad3, cp3, rfl⟩ := ownS_len hown
            replace HB := (below_drewN (HB.alloc HB.size _) _).trans (hb5.mono (below_drewN (HB.alloc HB.size _) _).size)
            clear hb5 hown
            have hfd := fun x y W => field_ms ad3 0 cp3 x y W
            go_wp2_with fail
            go_ret
            exact ⟨rfl, HB⟩
          · have p1 : (1 : Int) < (b.size : Int) := by omega
            go_wp2_with fail
            go_quiet (fail)
            go_wp2_with fail
            refine (A3.out _).mono ?_
            rintro r w5 ⟨⟨v, rfl, hown⟩, hb5⟩
            obtain ⟨ad3, cp3, rfl⟩ := ownS_len hown
            replace HB := (below_drewN (HB.alloc HB.size _) _).trans (hb5.mono (below_drewN (HB.alloc HB.size _) _).size)
            clear hb5 hown
            have hfd := fun x y W => field_ms ad3 0 cp3 x y W
            go_wp2_with fail
            go_ret
            exact ⟨rfl, HB⟩
        · obtain ⟨o2, ho2⟩ : ∃ o, Cut lim Y.data.toList = o := ⟨_, rfl⟩
          have A2 : Hid (asks lim Y o2) := asks_of lim _ _ (by rw [← hY, ByteArray.size_append]; omega) ho2
          have d3 : decide ((6 : Int) < (b.size : Int)) = false := decide_eq_false (by omega)
          have d4 : (decide ((1 : Int) < (b.size : Int)) = false) ∨ (decide ((1 : Int) < (b.size : Int)) = true ∧ ∃ h : 1 < b.size, decide ((b[1].toNat : Int) < 128) = false) := by
            by_cases h1 : 1 < b.size
            · refine Or.inr ⟨decide_eq_true (by omega), h1, decide_eq_false ?_⟩
              have hh : ¬ lb b.data.toList 1 < 128 := fun hh => hwh (Or.inr ⟨h1, hh⟩)
              rw [lb_s b 1 h1] at hh
              omega
            · exact Or.inl (decide_eq_false (by omega))
          have hYs : Y.size ≤ 1048576 := by rw [← hY, ByteArray.size_append]; omega
          clear hE he hn hbl hnz hlt hEc ho3 hwh n0 ho2
          go_enter Try.func3, Try.ntmps3
          go_wp2_with fail
          refine (H1 _).out.mono ?_
          rintro r w1 ⟨rfl, HB⟩
          go_wp2_with fail
          refine (H0 _).out.mono ?_
          rintro r w2 ⟨rfl, hb2⟩
          replace HB := HB.trans (hb2.mono HB.size)
          clear hb2
          go_wp2_with fail
          refine (A1.out _).mono ?_
          rintro r w3 ⟨⟨v, rfl, hown⟩, hb3⟩
          obtain ⟨ad, cp, rfl⟩ := ownS_len hown
          replace HB := HB.trans (hb3.mono HB.size)
          clear hb3 hown
          go_wp2_with fail
          replace HB := HB.alloc HB.size (.cells #[.slice ad ([] : List (List UInt8)).length cp, .int .i64 0, .int .i64 0] 26)
          refine (A2.out _).mono ?_
          rintro r w4 ⟨⟨v, rfl, hown⟩, hb4⟩
          obtain ⟨ad2, ln2, cp2, rfl⟩ := ownS_slice hown
          replace HB := HB.trans (hb4.mono HB.size)
          clear hb4 hown A1 A2 H0 H1
          rcases d4 with d4 | ⟨d4, h1, d5⟩
          · go_wp2_with fail
            go_quiet (fail)
            go_wp2_with fail
            refine (A3.out _).mono ?_
            rintro r w5 ⟨⟨v, rfl, hown⟩, hb5⟩
            obtain ⟨ad3, cp3, rfl⟩ := ownS_len hown
            replace HB := (below_drewN (HB.alloc HB.size _) _).trans (hb5.mono (below_drewN (HB.alloc HB.size _) _).size)
            clear hb5 hown
            have hfd := fun x y W => field_ms ad3 0 cp3 x y W
            go_wp2_with fail
            go_ret
            exact ⟨rfl, HB⟩
          · have p1 : (1 : Int) < (b.size : Int) := by omega
            go_wp2_with fail
            go_quiet (fail)
            go_wp2_with fail
            refine (A3.out _).mono ?_
            rintro r w5 ⟨⟨v, rfl, hown⟩, hb5⟩
            obtain ⟨ad3, cp3, rfl⟩ := ownS_len hown
            replace HB := (below_drewN (HB.alloc HB.size _) _).trans (hb5.mono (below_drewN (HB.alloc HB.size _) _).size)
            clear hb5 hown
            have hfd := fun x y W => field_ms ad3 0 cp3 x y W
            go_wp2_with fail
            go_ret
            exact ⟨rfl, HB⟩
    · have hn : needN lim b.data.toList = 0 := by unfold needN; rw [(FrMath.look_er _ _ he).2.1]; simp
      have A1 : Hid (asks lim b _) := asks_of lim b _ (by omega) (FrMath.Cut_end lim _ hE)
      rw [hn] at H1
      generalize (FrMath.look lim b.data.toList).er = er at *
      have d1 : ((er : Int) != 0) = true := by simp; omega
      clear hE he hn hbl hm
      go_enter Try.func3, Try.ntmps3
      go_wp2_with fail
      refine (H1 _).out.mono ?_
      rintro r w1 ⟨rfl, HB⟩
      go_wp2_with fail
      refine (H0 _).out.mono ?_
      rintro r w2 ⟨rfl, hb2⟩
      replace HB := HB.trans (hb2.mono HB.size)
      clear hb2
      go_wp2_with fail
      refine (A1.out _).mono ?_
      rintro r w3 ⟨⟨v, rfl, hown⟩, hb3⟩
      obtain ⟨ad, cp, rfl⟩ := ownS_len hown
      replace HB := HB.trans (hb3.mono HB.size)
      clear hb3 hown
      go_wp2_with fail
      go_ret
      exact ⟨rfl, HB.alloc HB.size _⟩
  · obtain ⟨k1, k2, k3, k4⟩ := FrMath.on_ok lim _ hE
    have hn : needN lim b.data.toList = 0 := by unfold needN; omega
    have A1 : Hid (asks lim b _) := asks_of lim b _ (by omega) (FrMath.Cut_on lim _ hE)
    rw [hn] at H1
    rw [hbl] at k2
    generalize (FrMath.look lim b.data.toList).sz = z at *
    obtain ⟨X, hX⟩ : ∃ X, S (b.data.toList.take z) = X := ⟨_, rfl⟩
    have hXs : X.size = z := by rw [← hX, S_size, List.length_take, hbl]; omega
    have hXe : b.extract 0 z = X := by rw [← hX]; apply S_eq; exact take_l b z
    generalize Cut lim (b.data.toList.drop z) = o at *
    obtain ⟨ms, at_, er⟩ := o
    have hX' : Hid (S (b.data.toList.take z) = X) := hX
    have z0 : (0 : Int) ≤ (z : Int) := Int.natCast_nonneg _
    have z1 : (z : Int) ≤ (b.size : Int) := Int.ofNat_le.2 k2
    generalize b.data.toList.take z = m at *
    clear hE k1 k4 hn hbl hm k3 hX
    go_enter Try.func3, Try.ntmps3
    go_wp2_with fail
    refine (H1 _).out.mono ?_
    rintro r w1 ⟨rfl, HB⟩
    go_wp2_with fail
    refine (H0 _).out.mono ?_
    rintro r w2 ⟨rfl, hb2⟩
    replace HB := HB.trans (hb2.mono HB.size)
    clear hb2
    go_wp2_with fail
    refine (A1.out _).mono ?_
    rintro r w3 ⟨⟨v, rfl, hown⟩, hb3⟩
    replace HB := HB.trans (hb3.mono HB.size)
    replace hown : OwnS w3 w2.heap.size v (m :: ms) := hown
    rcases ownS_form hown with ⟨_, hc⟩ | ⟨g, cap, rfl⟩
    · cases hc
    have hc0 : w3.cell? ⟨g, 0, none⟩ = some (.string X) := ownS_one hown hX'.out
    have hg : g < w3.heap.size := World.block_lt_of_cell? w3 _ hc0
    have hl1 : (0 : Int) < ((m :: ms).length : Int) := by simp
    have hl2 : 0 < (m :: ms).length := by simp
    generalize (m :: ms).length = L at *
    clear hb3 hown A1 H0 H1
    go_wp2_with fail
    go_quiet (fail)
    go_wp2_with fail
    go_ret
    exact ⟨rfl, below_drewN (HB.alloc HB.size _) _⟩
end Go.Proofs.Ytddkefjcpgdomaa
