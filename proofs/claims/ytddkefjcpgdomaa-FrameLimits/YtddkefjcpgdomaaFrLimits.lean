import Derived.Test.YtddkefjcpgdomaaFrWrap2
namespace Go.Proofs.Ytddkefjcpgdomaa
open Go.RowKit
open FrMath (Hdr lb bd within Out ends cut Cut)

theorem ownS_nil_len {w : World} {B : Nat} {v : Value} (h : OwnS w B v []) : ∃ a c, v = .slice a 0 c := ownS_len h

set_option maxHeartbeats 1000000 in
theorem frameLimits_walk (form : Int) (body : ByteArray) (less : Int) (w : World) (hm : body.size ≤ 140737488351232) :
    Calls Try.prog 5 #[.int .i64 form, .string body, .int .i64 less] w fun e w' => e = .returned (.bool true) ∧ Below w.heap.size w w' := by
  obtain ⟨t, ht, _, HS⟩ := short_any body hm
  obtain ⟨k, hk, HW⟩ := wrap_any form t ht
  obtain ⟨M, hM⟩ : ∃ M, S (hd k t.size) ++ t = M := ⟨_, rfl⟩
  rw [hM] at HW
  have hMl : M.data.toList = hd k t.size ++ t.data.toList := by rw [← hM, app_l, S_l]
  have hMs : M.size = 2 + k + t.size := by rw [← size_l, hMl, List.length_append, hd_len, size_l]
  have hk4 := hk.1
  have hLk := fun lim => look_hd lim k t.size t.data.toList hk
  have hLk0 := fun lim => look_hd lim k t.size [] hk
  obtain ⟨q, hq1, hq2, hqd⟩ : ∃ q : Int, 1 ≤ q ∧ q ≤ (M.size : Int) ∧ ((decide (less < 1) = true ∧ q = 1) ∨ (decide (less < 1) = false ∧ decide ((M.size : Int) < less) = true ∧ q = 1) ∨ (decide (less < 1) = false ∧ decide ((M.size : Int) < less) = false ∧ less = q)) := by
    by_cases h1 : less < 1
    · exact ⟨1, by omega, by omega, Or.inl ⟨decide_eq_true h1, rfl⟩⟩
    · by_cases h2 : (M.size : Int) < less
      · exact ⟨1, by omega, by omega, Or.inr (Or.inl ⟨decide_eq_false h1, decide_eq_true h2, rfl⟩)⟩
      · exact ⟨less, by omega, by omega, Or.inr (Or.inr ⟨decide_eq_false h1, decide_eq_false h2, rfl⟩)⟩
  obtain ⟨lim, hlim⟩ : ∃ lim : Int, (M.size : Int) - q = lim := ⟨_, rfl⟩
  have hlt : lim < ((2 + k + t.size : Nat) : Int) := by omega
  have A1 : Hid (asks (M.size : Int) M ⟨[M.data.toList], M.size, 0⟩) := by
    refine asks_of _ _ _ (by omega) ?_
    have e0 : FrMath.look (M.size : Int) (hd k t.size) = ⟨0, 2 + k + t.size, 0⟩ := by
      have := hLk0 (M.size : Int)
      rw [List.append_nil] at this
      rw [this]
      unfold FrMath.within
      rw [if_neg (by omega)]
    have := enough_one (M.size : Int) (hd k t.size) t.data.toList (by rw [e0]) (by rw [e0]) (by rw [e0, List.length_append, hd_len, size_l])
    rw [e0, ← hMl] at this
    rw [this, hMs]
  have hX1 : (M.extract 0 (2 + k)).data.toList = hd k t.size := by rw [take_l, hMl, List.take_left' (hd_len _ _)]
  have hX2 : (M.extract 0 (1 + k)).data.toList = (hd k t.size).take (1 + k) := by
    rw [take_l, hMl, List.take_append_of_le_length (by rw [hd_len]; omega)]
  have A2 : Hid (asks lim (M.extract 0 (2 + k)) ⟨[], 0, 33⟩) := by
    refine asks_of _ _ _ (by rw [ByteArray.size_extract]; omega) ?_
    have e0 : FrMath.look lim (hd k t.size) = ⟨0, 0, 33⟩ := by
      have := hLk0 lim
      rw [List.append_nil] at this
      rw [this]
      unfold FrMath.within
      rw [if_pos ⟨rfl, hlt⟩]
    rw [hX1, FrMath.Cut_end lim _ (Or.inl (by rw [e0]; decide)), e0]
  have A3 : Hid (asks lim (M.extract 0 (1 + k)) ⟨[], 0, 0⟩) := by
    refine asks_of _ _ _ (by rw [ByteArray.size_extract]; omega) ?_
    obtain ⟨e1, e2⟩ := look_cut lim k t.size hk
    rw [hX2, FrMath.Cut_end lim _ (Or.inr e2), e1]
  have N4 : ∀ W, Hid (Calls Try.prog 9 #[.int .i64 lim, .string M] W fun r w' => r = .returned (.int .i64 0) ∧ Below W.heap.size W w') := fun W => by
    have h := frameNeed_any lim M W (by omega)
    have e : needN lim M.data.toList = 0 := by
      unfold needN
      rw [hMl, hLk lim]
      unfold FrMath.within
      rw [if_pos ⟨rfl, hlt⟩]
      simp
    rw [e] at h
    exact h
  obtain ⟨H, hH⟩ : ∃ H, 1 + k = H := ⟨_, rfl⟩
  have hH1 : 2 + k = H + 1 := by omega
  rw [hH1] at A2
  rw [hH] at A3
  have x1 : (M.size : Int) - (t.size : Int) = (H : Int) + 1 := by omega
  have x1w : wrap64 ((M.size : Int) - (t.size : Int)) = ((H + 1 : Nat) : Int) := by unfold wrap64; omega
  have x2 : ((H + 1 : Nat) : Int) ≤ (M.size : Int) := by omega
  have x3 : (H : Int) ≤ (M.size : Int) := by omega
  have x4 : (H + 1 : Nat) ≤ M.size := by omega
  have x5 : H ≤ M.size := by omega
  have hY : Hid (S M.data.toList = M) := S_of M
  have ms1 : M.size ≤ 5000 := by omega
  subst hlim
  clear hlt hX1 hX2 hLk hLk0 hMl hMs hM hk hk4 hH hH1 hm ht x1
  rcases hqd with ⟨d1, rfl⟩ | ⟨d1, d2, rfl⟩ | ⟨d1, d2, rfl⟩
  · go_enter Try.func5, Try.ntmps5
    go_wp2_with fail
    refine (HS _).mono ?_
    rintro r w1 ⟨rfl, rfl⟩
    go_wp2_with fail
    refine (HW _).mono ?_
    rintro r w1 ⟨rfl, HB⟩
    go_wp2_with fail
    refine (A1.out _).mono ?_
    rintro r w2 ⟨⟨v, rfl, hown⟩, hb2⟩
    replace HB := HB.trans (hb2.mono HB.size)
    rcases ownS_form hown with ⟨_, hc⟩ | ⟨g, cap, rfl⟩
    · cases hc
    have hc0 : w2.cell? ⟨g, 0, none⟩ = some (.string M) := ownS_one hown hY.out
    have hg : g < w2.heap.size := World.block_lt_of_cell? w2 _ hc0
    clear hb2 hown A1 HS HW
    go_wp2_with fail
    refine (A2.out _).mono ?_
    rintro r w3 ⟨⟨v, rfl, hown⟩, hb3⟩
    obtain ⟨ad, cp, rfl⟩ := ownS_nil_len hown
    replace HB := (HB.alloc HB.size _).trans (hb3.mono (HB.alloc HB.size _).size)
    clear hb3 hown A2
    go_wp2_with fail
    refine (A3.out _).mono ?_
    rintro r w4 ⟨⟨v, rfl, hown⟩, hb4⟩
    obtain ⟨ad2, cp2, rfl⟩ := ownS_nil_len hown
    replace HB := (HB.alloc HB.size _).trans (hb4.mono (HB.alloc HB.size _).size)
    clear hb4 hown A3
    go_wp2_with fail
    refine (N4 _).out.mono ?_
    rintro r w5 ⟨rfl, hb5⟩
    replace HB := (HB.alloc HB.size _).trans (hb5.mono (HB.alloc HB.size _).size)
    go_wp2_with fail
    go_ret
    exact ⟨rfl, HB⟩
  · go_enter Try.func5, Try.ntmps5
    go_wp2_with fail
    refine (HS _).mono ?_
    rintro r w1 ⟨rfl, rfl⟩
    go_wp2_with fail
    refine (HW _).mono ?_
    rintro r w1 ⟨rfl, HB⟩
    go_wp2_with fail
    refine (A1.out _).mono ?_
    rintro r w2 ⟨⟨v, rfl, hown⟩, hb2⟩
    replace HB := HB.trans (hb2.mono HB.size)
    rcases ownS_form hown with ⟨_, hc⟩ | ⟨g, cap, rfl⟩
    · cases hc
    have hc0 : w2.cell? ⟨g, 0, none⟩ = some (.string M) := ownS_one hown hY.out
    have hg : g < w2.heap.size := World.block_lt_of_cell? w2 _ hc0
    clear hb2 hown A1 HS HW
    go_wp2_with fail
    refine (A2.out _).mono ?_
    rintro r w3 ⟨⟨v, rfl, hown⟩, hb3⟩
    obtain ⟨ad, cp, rfl⟩ := ownS_nil_len hown
    replace HB := (HB.alloc HB.size _).trans (hb3.mono (HB.alloc HB.size _).size)
    clear hb3 hown A2
    go_wp2_with fail
    refine (A3.out _).mono ?_
    rintro r w4 ⟨⟨v, rfl, hown⟩, hb4⟩
    obtain ⟨ad2, cp2, rfl⟩ := ownS_nil_len hown
    replace HB := (HB.alloc HB.size _).trans (hb4.mono (HB.alloc HB.size _).size)
    clear hb4 hown A3
    go_wp2_with fail
    refine (N4 _).out.mono ?_
    rintro r w5 ⟨rfl, hb5⟩
    replace HB := (HB.alloc HB.size _).trans (hb5.mono (HB.alloc HB.size _).size)
    go_wp2_with fail
    go_ret
    exact ⟨rfl, HB⟩
  · go_enter Try.func5, Try.ntmps5
    go_wp2_with fail
    refine (HS _).mono ?_
    rintro r w1 ⟨rfl, rfl⟩
    go_wp2_with fail
    refine (HW _).mono ?_
    rintro r w1 ⟨rfl, HB⟩
    go_wp2_with fail
    refine (A1.out _).mono ?_
    rintro r w2 ⟨⟨v, rfl, hown⟩, hb2⟩
    replace HB := HB.trans (hb2.mono HB.size)
    rcases ownS_form hown with ⟨_, hc⟩ | ⟨g, cap, rfl⟩
    · cases hc
    have hc0 : w2.cell? ⟨g, 0, none⟩ = some (.string M) := ownS_one hown hY.out
    have hg : g < w2.heap.size := World.block_lt_of_cell? w2 _ hc0
    clear hb2 hown A1 HS HW
    go_wp2_with fail
    refine (A2.out _).mono ?_
    rintro r w3 ⟨⟨v, rfl, hown⟩, hb3⟩
    obtain ⟨ad, cp, rfl⟩ := ownS_nil_len hown
    replace HB := (HB.alloc HB.size _).trans (hb3.mono (HB.alloc HB.size _).size)
    clear hb3 hown A2
    go_wp2_with fail
    refine (A3.out _).mono ?_
    rintro r w4 ⟨⟨v, rfl, hown⟩, hb4⟩
    obtain ⟨ad2, cp2, rfl⟩ := ownS_nil_len hown
    replace HB := (HB.alloc HB.size _).trans (hb4.mono (HB.alloc HB.size _).size)
    clear hb4 hown A3
    go_wp2_with fail
    refine (N4 _).out.mono ?_
    rintro r w5 ⟨rfl, hb5⟩
    replace HB := (HB.alloc HB.size _).trans (hb5.mono (HB.alloc HB.size _).size)
    go_wp2_with fail
    go_ret
    exact ⟨rfl, HB⟩
end Go.Proofs.Ytddkefjcpgdomaa
