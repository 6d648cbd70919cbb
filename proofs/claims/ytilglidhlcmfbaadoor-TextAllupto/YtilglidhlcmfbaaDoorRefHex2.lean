import Derived.Test.YtilglidhlcmfbaaDoorRefHex
namespace Go.Proofs.YtilglidhlcmfbaaDoor
open Go.RowKit
open TextMath (dg hex wo unhex pre fold lo)

theorem hex_snoc2 (s : ByteArray) (k : Nat) (h : k < s.size) : hex (s.data.toList.take (k + 1)) = hex (s.data.toList.take k) ++ [dg (s[k].toNat / 16)] ++ [dg (s[k].toNat % 16)] := by
  rw [take_snoc s k h]; simp [hex]

set_option maxHeartbeats 1000000 in
theorem rHex_any (s : ByteArray) (w : World) (hm : s.size ≤ 4194304) :
    Calls Tryd.prog 24 #[.string s] w fun e w' => e = .returned (.string (S (hex s.data.toList))) ∧ Below w.heap.size w w' := by
  have hL : Hid (s.data.toList.length = s.size) := size_l s
  obtain ⟨i0, hi, hz0, hz1, hz2⟩ := info_parts info_u8
  go_enter Tryd.func24, Tryd.ntmps24
  go_wp2
  go_loopw [3, 4] (fun out i wr => ∃ k : Nat, k ≤ s.size ∧ i = .int .i64 k ∧ Below w.heap.size w wr ∧ wr.ownsRow w.heap.size 5 1 out (2 * k) (bv (hex (s.data.toList.take k)))) (fun _ i _ => s.size - (intOf i).toNat)
  case atStart => exact ⟨0, Nat.zero_le _, rfl, Below.refl _ _, World.ownsRow_nil _ _ _ _⟩
  case round =>
    obtain ⟨k, hk, rfl, hb, hown⟩ := hrel
    have hgs' := hb.size
    by_cases hlt : k < s.size
    · have hc256 : s[k].toNat < 256 := s[k].toNat_lt
      have b1 : s[k].toNat / 16 < 16 := by omega
      have b2 : s[k].toNat % 16 < 16 := by omega
      have hsn : Hid (bv (hex (s.data.toList.take (k + 1))) = bv (hex (s.data.toList.take k)) ++ [.int .u8 ((dg (s[k].toNat / 16)).toNat : Int)] ++ [.int .u8 ((dg (s[k].toNat % 16)).toNat : Int)]) := by unfold Hid; rw [hex_snoc2 _ _ hlt, bv_app, bv_app]; rfl
      have hq : ((s[k].toNat : Nat) : Int) / 16 = ((s[k].toNat / 16 : Nat) : Int) := by omega
      have hr : ((s[k].toNat : Nat) : Int) % 16 = ((s[k].toNat % 16 : Nat) : Int) := by omega
      have g1 : ∀ (h : s[k].toNat / 16 < DIG.size), (DIG[s[k].toNat / 16]'h).toNat = (dg (s[k].toNat / 16)).toNat := fun h => by rw [DIG_get _ b1 h]
      have g2 : ∀ (h : s[k].toNat % 16 < DIG.size), (DIG[s[k].toNat % 16]'h).toNat = (dg (s[k].toNat % 16)).toNat := fun h => by rw [DIG_get _ b2 h]
      unfold DIG at g1 g2
      generalize s[k].toNat / 16 = qa at *
      generalize s[k].toNat % 16 = qb at *
      generalize ((dg qa).toNat) = da at *
      generalize ((dg qb).toNat) = db at *
      have c2 : (qa : Int) < 16 := by omega
      have c4 : (qb : Int) < 16 := by omega
      go_wp2_with (first
        | (at_builtin; refine wpList_append_own _ rfl _ _ 29 rfl w.heap.size 5 i0 (.int .u8 0) 1 1 Tryd.underlying29 hi hz0 hz1 hz2 rfl (by decide) _ _ _ rfl (hown.alloc _) ⟨wr.heap.size, 0, none⟩ 1 1 [.int .u8 (da : Int)] rfl rfl ?_ ?_ ?_ ?_ ?_ ?_; exact cell_one_new _ _ _; (intro u hu; simp at hu; subst hu; rfl); (unfold maxLen; omega); omega; (simp; omega); intro v1 w1 hown1 hgrow1 _)
        | (at_builtin; refine wpList_append_own _ rfl _ _ 29 rfl w.heap.size 5 i0 (.int .u8 0) 1 1 Tryd.underlying29 hi hz0 hz1 hz2 rfl (by decide) _ _ _ rfl (hown1.alloc _) ⟨w1.heap.size, 0, none⟩ 1 1 [.int .u8 (db : Int)] rfl rfl ?_ ?_ ?_ ?_ ?_ ?_; exact cell_one_new _ _ _; (intro u hu; simp at hu; subst hu; rfl); (unfold maxLen; omega); omega; (have := hgrow1.size; simp at this ⊢; omega); intro v2 w2 hown2 hgrow2 _))
      go_roundw
      case rel =>
        have e1 : Below w.heap.size w w1 := (hb.alloc hgs' _).grown hgrow1 (by simp; omega) (fun j h => (hown.lt j h).1)
        refine ⟨k + 1, by omega, by go_num, ?_, ?_⟩
        · exact (e1.alloc e1.size _).grown hgrow2 (by have := e1.size; simp; omega) (fun j h => (hown1.lt j h).1)
        · have e : 2 * (k + 1) = 2 * k + 1 + 1 := by omega
          rw [hsn.out, e]; exact hown2
      case measure => simp [intOf]; omega
    · have hback := own_back_any (P := Tryd.prog) wr w.heap.size 29 9 5 _ _ _ Tryd.underlying29 Tryd.underlying5 Tryd.underlying9 hown
      rw [List.take_of_length_le (by rw [hL.out]; omega)] at hback
      clear hown
      go_wp2
      go_ret
      exact ⟨rfl, hb⟩
end Go.Proofs.YtilglidhlcmfbaaDoor
