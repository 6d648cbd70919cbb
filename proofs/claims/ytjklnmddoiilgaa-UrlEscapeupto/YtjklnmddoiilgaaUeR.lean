import Derived.Test.YtjklnmddoiilgaaUeD
import Derived.Deep.RegionHeld3
import Derived.Deep.AppendLies
import Derived.Deep.RegionLaw
import Derived.Deep.DrawnRows
namespace Go.Proofs.Ytjklnmddoiilgaa
open Go.RowKit
open EscMath
attribute [local go_sem ↓] Go.wp_at_zero Go.wp_at_succ

/-- The great digits as the program's constant. -/
def UDG : ByteArray := { data := #[48, 49, 50, 51, 52, 53, 54, 55, 56, 57, 65, 66, 67, 68, 69, 70] }
theorem UDG_get (q : Nat) (h : q < 16) (h' : q < UDG.size) : UDG[q] = ug q := by
  have hp : ∀ n : Fin 16, UDG.data.toList.getD n.1 0 = ug n.1 := by decide +kernel
  rw [← getD_s UDG q h']; exact hp ⟨q, h⟩

theorem quo16 (n : Nat) (h : n < 256) : IntKind.u8.wrap ((n : Int) / 16) = ((n / 16 : Nat) : Int) := by
  have e : IntKind.u8.wrap ((n : Int) / 16) = ((n : Int) / 16) % 256 := rfl
  rw [e]; omega
theorem rem16 (n : Nat) : ((n : Int)).tmod 16 = ((n % 16 : Nat) : Int) := by rw [Int.tmod_eq_emod_of_nonneg (by omega)]; omega
theorem UDG_at (q : Nat) (h : q < 16) : ({ data := #[48, 49, 50, 51, 52, 53, 54, 55, 56, 57, 65, 66, 67, 68, 69, 70] } : ByteArray)[q]'h = ug q := UDG_get q h h
set_option maxRecDepth 100000 in
set_option maxHeartbeats 1000000 in
theorem rEscaped_any (s : ByteArray) (w : World) (hs : s.size ≤ 4194304) :
    Calls Try.prog 16 #[.string s, .bool false] w fun e w' => e = .returned (.string (S (esc s.data.toList))) ∧ Below w.heap.size w w' := by
  have hL : Hid (s.data.toList.length = s.size) := size_l s
  obtain ⟨i0, hi, hz0, hz1, hz2⟩ := info_parts info_u8
  go_enter Try.func16, Try.ntmps16
  go_wp2
  go_loopw [5, 6] (fun out i wr => ∃ k m : Nat, k ≤ s.size ∧ m ≤ 3 * k ∧ i = .int .i64 k ∧ Hid (Below w.heap.size w wr) ∧ Hid (wr.ownsRow w.heap.size 5 1 out m (bv (esc (s.data.toList.take k))))) (fun _ i _ => s.size - (intOf i).toNat)
  case atStart => exact ⟨0, 0, Nat.zero_le _, Nat.le_refl _, rfl, Below.refl _ _, World.ownsRow_nil _ _ _ _⟩
  case round =>
    obtain ⟨k, m, hk, hm, rfl, hb, hown⟩ := hrel
    have hgs' : Hid (w.heap.size ≤ wr.heap.size) := hb.out.size
    by_cases hlt : k < s.size
    · have hsn : Hid (esc (s.data.toList.take (k + 1)) = esc (s.data.toList.take k) ++ e1 s[k]) := esc_snoc s k hlt
      have hqc : Hid (∀ w, Calls Try.prog 23 #[.int .u8 (s[k].toNat : Int)] w fun e w' => e = .returned (.bool (qt s[k])) ∧ w = w') := fun w => rQuiet_any s[k] w
      have hc256 : s[k].toNat < 256 := s[k].toNat_lt
      obtain ⟨c, hc⟩ : ∃ c, s[k] = c := ⟨_, rfl⟩
      rw [hc] at hsn hqc hc256
      cases hq : qt c with
      | true =>
        have he : e1 c = [c] := by unfold e1; rw [if_pos hq]
        rw [he] at hsn
        rw [hq] at hqc
        have hnew : Hid (bv (esc (s.data.toList.take (k + 1))) = bv (esc (s.data.toList.take k)) ++ [.int .u8 (c.toNat : Int)]) := by unfold Hid; rw [hsn.out, bv_app]; rfl
        clear hq he hc256 hsn
        go_wp2_with (first | (go_at_call 23; refine (hqc.out _).mono ?_; rintro e w' ⟨rfl, rfl⟩) | (at_builtin; refine wpList_append_own _ rfl _ _ 30 rfl w.heap.size 5 i0 (.int .u8 0) 1 1 Try.underlying30 hi hz0 hz1 hz2 rfl (by decide) _ _ _ rfl (hown.out.alloc _) ⟨wr.heap.size, 0, none⟩ 1 1 [.int .u8 (c.toNat : Int)] rfl rfl ?_ ?_ ?_ ?_ ?_ ?_; exact cell_one_new _ _ _; (intro u hu; simp at hu; subst hu; rfl); (unfold maxLen; omega); omega; (have := hgs'.out; simp; omega); intro v1 w1 hown1 hgrow1 _))
        have HB : Hid (Below w.heap.size w w1) := (hb.out.alloc hgs'.out _).grown hgrow1 (by have := hgs'.out; simp; omega) (fun j h => (hown.out.lt j h).1)
        have HO : Hid (w1.ownsRow w.heap.size 5 1 v1 (m + 1) (bv (esc (s.data.toList.take (k + 1))))) := by unfold Hid; rw [hnew.out]; exact hown1
        clear hown1 hgrow1
        go_roundw
        case rel => exact ⟨k + 1, m + 1, hlt, by omega, by go_num, HB, HO⟩
        case measure => simp [intOf]; omega
      | false =>
        have he : e1 c = [37, ug (c.toNat / 16), ug (c.toNat % 16)] := by unfold e1; rw [if_neg (by rw [hq]; decide)]
        rw [he] at hsn
        rw [hq] at hqc
        have b1 : c.toNat / 16 < 16 := by omega
        have b2 : c.toNat % 16 < 16 := by omega
        have q1 := quo16 _ hc256
        have q2 := rem16 c.toNat
        have hnew : Hid (bv (esc (s.data.toList.take (k + 1))) = bv (esc (s.data.toList.take k)) ++ [.int .u8 37, .int .u8 ((ug (c.toNat / 16)).toNat : Int), .int .u8 ((ug (c.toNat % 16)).toNat : Int)]) := by unfold Hid; rw [hsn.out, bv_app]; rfl
        have r1 := UDG_at _ b1
        have r2 := UDG_at _ b2
        clear hq he hsn
        generalize c.toNat / 16 = qa at *
        generalize c.toNat % 16 = qb at *
        generalize ug qa = da at *
        generalize ug qb = db at *
        have c1 : (0 : Int) ≤ (qa : Int) := by omega
        have c2 : (qa : Int) < 16 := by omega
        have c3 : (0 : Int) ≤ (qb : Int) := by omega
        have c4 : (qb : Int) < 16 := by omega
        clear hc256
        have hwm : m ≤ 12582912 := by omega
        go_wp2_with (go_at_call 23; refine (hqc.out _).mono ?_; rintro e w' ⟨rfl, rfl⟩)
        go_region_held3 (fun w' => True) (trivial)
          ((refine step_append_lies _ (by rfl) _ _ 30 (by rfl) w.heap.size 5 i0 (.int .u8 0) 1 1 Try.underlying30 hi hz0 hz1 hz2 rfl (by decide) _ m _ (by rfl) ((hown.out.alloc _).drew) ⟨wr.heap.size, 0, none⟩ 3 3 [.int .u8 37, .int .u8 (da.toNat : Int), .int .u8 (db.toNat : Int)] (by rfl) (by rfl) (World.news_of_block (cs := #[.int .u8 37, .int .u8 (da.toNat : Int), .int .u8 (db.toNat : Int)]) (t := 5) (fr := (0, 0)) (heap_alloc_new wr _)) (by intro u hu; simp at hu; rcases hu with rfl | rfl | rfl <;> rfl) (by decide) (by unfold maxLen; omega) (by omega) (by have := hgs'.out; simp; omega) _ rfl ?_; intro g1' cap1 w1 hown1 hgrow1 _ _))
        all_goals
          have HB : Hid (Below w.heap.size w w1) := ((hb.out.alloc hgs'.out _).drew).grown hgrow1 (by have := hgs'.out; simp; omega) (fun j h => (hown.out.lt j h).1)
          have HO : Hid (w1.ownsRow w.heap.size 5 1 (.slice (some ⟨g1', 0, none⟩) (m + 3) cap1) (m + 3) (bv (esc (s.data.toList.take (k + 1))))) := by unfold Hid; rw [hnew.out]; exact hown1
          clear hown1 hgrow1
          go_wp2_with fail
          go_roundw
          case rel => exact ⟨k + 1, m + 3, hlt, by omega, by go_num, HB, HO⟩
          case measure => simp [intOf]; omega
    · have hback := own_back_any (P := Try.prog) wr w.heap.size 30 9 5 _ _ _ Try.underlying30 Try.underlying5 Try.underlying9 hown.out
      rw [List.take_of_length_le (by rw [hL.out]; omega)] at hback
      clear hown
      go_wp2_with fail
      go_ret
      exact ⟨rfl, hb.out⟩
set_option maxRecDepth 100000 in
theorem rEscape_any (s : ByteArray) (w : World) (hs : s.size ≤ 4194304) :
    Calls Try.prog 8 #[.string s] w fun e w' => e = .returned (.string (S (esc s.data.toList))) ∧ Below w.heap.size w w' := by
  go_enter Try.func8, Try.ntmps8
  go_wp2_with (go_at_call 16; refine (rEscaped_any s _ hs).mono ?_; rintro e w1 ⟨rfl, hb1⟩)
  go_ret
  exact ⟨rfl, hb1⟩
end Go.Proofs.Ytjklnmddoiilgaa
