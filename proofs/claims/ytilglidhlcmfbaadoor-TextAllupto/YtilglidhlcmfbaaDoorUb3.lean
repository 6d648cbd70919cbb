import Derived.Test.YtilglidhlcmfbaaDoorUb2
namespace Go.Proofs.YtilglidhlcmfbaaDoor
open Go.RowKit
open TextMath (al grp b64 bo wv ch Gd gF dec)

theorem gF_stop (g : List UInt8) (k : Nat) (hl : g.length ≤ 4) (hk : k ≤ g.length) (hall : ∀ j, j ≤ k → Gd (g.take j) = true) (hs : k = g.length ∨ Gd (g.take (k + 1)) = false) : gF g = k := by
  unfold gF
  match k, hk, hall, hs with
  | 0, _, _, hs =>
    rw [if_neg]
    rintro ⟨h1, h2⟩
    rcases hs with hs | hs
    · omega
    · rw [h2] at hs; cases hs
  | 1, hk, hall, hs =>
    rw [if_pos ⟨hk, hall 1 (by omega)⟩, if_neg]
    rintro ⟨h1, h2⟩
    rcases hs with hs | hs
    · omega
    · rw [h2] at hs; cases hs
  | 2, hk, hall, hs =>
    rw [if_pos ⟨by omega, hall 1 (by omega)⟩, if_pos ⟨hk, hall 2 (by omega)⟩, if_neg]
    rintro ⟨h1, h2⟩
    rcases hs with hs | hs
    · omega
    · rw [h2] at hs; cases hs
  | 3, hk, hall, hs =>
    rw [if_pos ⟨by omega, hall 1 (by omega)⟩, if_pos ⟨by omega, hall 2 (by omega)⟩, if_pos ⟨hk, hall 3 (by omega)⟩, if_neg]
    rintro ⟨h1, h2⟩
    rcases hs with hs | hs
    · omega
    · rw [h2] at hs; cases hs
  | 4, hk, hall, hs =>
    rw [if_pos ⟨by omega, hall 1 (by omega)⟩, if_pos ⟨by omega, hall 2 (by omega)⟩, if_pos ⟨by omega, hall 3 (by omega)⟩, if_pos ⟨hk, hall 4 (by omega)⟩]
  | k + 5, hk, _, _ => omega

set_option maxHeartbeats 1000000 in
theorem groupFront_any (g : ByteArray) (w : World) (hl : g.size ≤ 4) (ht : WTab w) :
    Calls Tryd.prog 30 #[.string g] w fun e w' => e = .returned (.int .i64 (gF g.data.toList : Nat)) ∧ Below w.heap.size w w' := by
  have hL : Hid (g.data.toList.length = g.size) := size_l g
  go_enter Tryd.func30, Tryd.ntmps30
  go_wp2
  go_loopw [3] (fun t wr => ∃ k : Nat, k ≤ g.size ∧ t = .int .i64 k ∧ Below w.heap.size w wr ∧ Hid (∀ j, j ≤ k → Gd (g.data.toList.take j) = true)) (fun t _ => g.size - (intOf t).toNat)
  case atStart => exact ⟨0, Nat.zero_le _, rfl, Below.refl _ _, fun j hj => by rw [Nat.le_zero.1 hj]; rfl⟩
  case round =>
    obtain ⟨k, hk, rfl, hb, hall⟩ := hrel
    by_cases hlt : k < g.size
    · have hkl : k < g.data.toList.length := by rw [hL.out]; exact hlt
      have h3 : (g.extract 0 k).size ≤ 3 := by simp; omega
      have hg : Gd (g.extract 0 k).data.toList = true := by rw [take_l]; exact hall.out k (Nat.le_refl _)
      have hcall : ∀ W, WTab W → Hid (Calls Tryd.prog 45 #[.string (g.extract 0 k), .int .u8 (g[k].toNat : Int)] W fun e w' => e = .returned (.bool (Gd (g.data.toList.take (k + 1)))) ∧ w' = W) := fun W hW => by
        have := goesOn_any (g.extract 0 k) g[k] W hg h3 hW
        rw [take_l, ← take_snoc g k hlt] at this
        exact this
      have c1 : (k : Int) < (g.size : Int) := by omega
      have c2 : (0 : Int) ≤ (k : Int) := by omega
      have c3 : (k : Int) ≤ (g.size : Int) := by omega
      have htr := ht.below hb
      clear h3 hg
      cases hn : Gd (g.data.toList.take (k + 1))
      · have HR : Hid (gF g.data.toList = k) := gF_stop _ k (by rw [hL.out]; exact hl) (by omega) hall.out (Or.inr hn)
        rw [hn] at hcall
        clear hn hall
        go_wp2
        go_quiet ((go_at_call 45; exact Calls.quiet_of_same (hcall _ (htr.drewN _)).out))
        go_wp2
        go_ret
        exact ⟨ret_int (by rw [HR.out]), below_drewN hb _⟩
      · have HA : Hid (∀ j, j ≤ k + 1 → Gd (g.data.toList.take j) = true) := fun j hj => by
          by_cases e : j = k + 1
          · subst e; exact hn
          · exact hall.out j (by omega)
        rw [hn] at hcall
        clear hn hall
        go_wp2
        go_quiet ((go_at_call 45; exact Calls.quiet_of_same (hcall _ (htr.drewN _)).out))
        go_wp2
        first
          | exact ⟨⟨k + 1, by omega, by go_num, below_drewN hb _, HA⟩, by simp [intOf]; omega⟩
          | (go_roundw
             case rel => exact ⟨k + 1, by omega, by go_num, below_drewN hb _, HA⟩
             case measure => simp [intOf]; omega)
    · have hke : k = g.size := by omega
      have HR : Hid (gF g.data.toList = k) := gF_stop _ k (by rw [hL.out]; exact hl) (by rw [hL.out]; omega) hall.out (Or.inl (by rw [hL.out]; exact hke))
      have d1 : decide ((k : Int) < (g.size : Int)) = false := by simp; omega
      clear hall hke
      go_wp2
      go_quiet (fail)
      go_wp2
      go_ret
      exact ⟨ret_int (by rw [HR.out]), below_drewN hb _⟩
end Go.Proofs.YtilglidhlcmfbaaDoor
