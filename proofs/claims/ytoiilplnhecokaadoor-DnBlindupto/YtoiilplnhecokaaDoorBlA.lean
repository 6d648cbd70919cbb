import Derived.Test.YtoiilplnhecokaaDoorBlM
import Derived.Test.YtoiilplnhecokaaDoorFold
namespace Go.Proofs.YtoiilplnhecokaaDoor
namespace Bl
open Go.RowKit
open TextMath (fold lo)
set_option linter.unusedVariables false

theorem xor32 (c : UInt8) : bits .xor .u8 (c.toNat : Int) 32 = ((c ^^^ 32).toNat : Int) := by
  have key : ∀ n : Fin 256, bits .xor .u8 ((UInt8.ofNat n.val).toNat : Int) 32 = (((UInt8.ofNat n.val) ^^^ 32).toNat : Int) := by decide +kernel
  have h2 := key ⟨c.toNat, c.toNat_lt⟩
  rw [UInt8.ofNat_toNat] at h2
  exact h2
theorem fold_set (t : List UInt8) (k : Nat) (h : k < t.length) (c : UInt8) (hc : lo c = lo t[k]) : fold (t.set k c) = fold t := by
  unfold fold
  rw [List.map_set, hc]
  have e : lo t[k] = (t.map lo)[k]'(by simpa using h) := by simp
  rw [e]
  exact List.set_getElem_self _
/-- What otherCase answers. -/
def OcQ (s : ByteArray) (e : Ending) : Prop := ∃ t : List UInt8, e = .returned (.string (S t)) ∧ fold t = fold s.data.toList ∧ t.length = s.size
set_option maxRecDepth 100000 in
set_option maxHeartbeats 4000000 in
theorem otherCase_any (s : ByteArray) (n : Int) (w : World) (hm : s.size ≤ 1073741824) :
    Calls Tryd.prog 9 #[.string s, .int .i64 n] w fun e w' => OcQ s e ∧ Below w.heap.size w w' := by
  have hL : Hid (s.data.toList.length = s.size) := size_l s
  obtain ⟨W1, cap, hconv, hb1, hz1, hr1⟩ := conv_bytes (P := Tryd.prog) w 9 53 5 s Tryd.underlying9 Tryd.underlying53 Tryd.underlying5
  have H1 : Hid (Below w.heap.size w W1 ∧ BRow W1 w.heap.size s.data.toList) := ⟨hb1, hr1⟩
  clear hb1 hz1 hr1
  go_enter Tryd.func9, Tryd.ntmps9
  go_wp2_with fail
  clear hconv
  go_loopw [6] (fun i wr => ∃ (k : Nat) (t : List UInt8), k ≤ s.size ∧ i = .int .i64 k ∧ Hid (Below w.heap.size w wr ∧ t.length = s.size ∧ fold t = fold s.data.toList ∧ BRow wr w.heap.size t)) (fun i _ => s.size - (intOf i).toNat)
  case atStart => exact ⟨0, s.data.toList, Nat.zero_le _, rfl, H1.out.1, hL.out, rfl, H1.out.2⟩
  case round =>
    obtain ⟨k, t, hk, rfl, hI⟩ := hrel
    clear H1
    have k0 : (0 : Int) ≤ (k : Int) := Int.natCast_nonneg _
    by_cases hlt : k < s.size
    · have k1 : (k : Int) < (s.size : Int) := Int.ofNat_lt.2 hlt
      have hkt : k < t.length := by rw [hI.out.2.1]; exact hlt
      obtain ⟨hc, hf⟩ := hI.out.2.2.2 k hkt
      obtain ⟨c, hcc⟩ : ∃ c, t[k] = c := ⟨_, rfl⟩
      rw [hcc] at hc
      have hx := xor32 c
      have hset : Hid (((97 ≤ c.toNat ∧ c.toNat ≤ 122) ∨ (65 ≤ c.toNat ∧ c.toNat ≤ 90)) → Below w.heap.size w (wr.setCell ⟨w.heap.size, k, none⟩ (.int .u8 ((c ^^^ 32).toNat : Int))) ∧ (t.set k (c ^^^ 32)).length = s.size ∧ fold (t.set k (c ^^^ 32)) = fold s.data.toList ∧ BRow (wr.setCell ⟨w.heap.size, k, none⟩ (.int .u8 ((c ^^^ 32).toNat : Int))) w.heap.size (t.set k (c ^^^ 32))) := fun h => by
        obtain ⟨i1, i2, i3, i4⟩ := hI.out
        refine ⟨i1.setCell (Nat.le_refl _) _, by rw [List.length_set]; exact i2, ?_, i4.set k hkt _⟩
        rw [fold_set t k hkt _ (by rw [hcc]; exact lo_flip c h)]
        exact i3
      have hlt' : Hid (k < s.size) := hlt
      have hmod : (k : Int).tmod 5 = ((k % 5 : Nat) : Int) := by rw [Int.tmod_eq_emod_of_nonneg k0]; omega
      have hmp : (0 : Int) ≤ ((k % 5 : Nat) : Int) := Int.natCast_nonneg _
      clear hkt hcc hlt hk
      have c256 : c.toNat < 256 := c.toNat_lt
      by_cases l1 : (97 : Int) ≤ (c.toNat : Int)
      · by_cases l2 : (c.toNat : Int) ≤ 122
        · skip
          go_wp2_with fail
          · go_roundw
            case rel => exact ⟨k + 1, t.set k (c ^^^ 32), hlt'.out, by simp, hset.out (by omega)⟩
            case measure => have := hlt'.out; simp [intOf]; omega
          · go_roundw
            case rel => exact ⟨k + 1, t, hlt'.out, by simp, hI⟩
            case measure => have := hlt'.out; simp [intOf]; omega
        · have l3 : (65 : Int) ≤ (c.toNat : Int) := by omega
          have l4 : ¬ (c.toNat : Int) ≤ 90 := by omega
          go_wp2_with fail
          go_roundw
          case rel => exact ⟨k + 1, t, hlt'.out, by simp, hI⟩
          case measure => have := hlt'.out; simp [intOf]; omega
      · by_cases l3 : (65 : Int) ≤ (c.toNat : Int)
        · by_cases l4 : (c.toNat : Int) ≤ 90
          · skip
            go_wp2_with fail
            · go_roundw
              case rel => exact ⟨k + 1, t.set k (c ^^^ 32), hlt'.out, by simp, hset.out (by omega)⟩
              case measure => have := hlt'.out; simp [intOf]; omega
            · go_roundw
              case rel => exact ⟨k + 1, t, hlt'.out, by simp, hI⟩
              case measure => have := hlt'.out; simp [intOf]; omega
          · skip
            go_wp2_with fail
            go_roundw
            case rel => exact ⟨k + 1, t, hlt'.out, by simp, hI⟩
            case measure => have := hlt'.out; simp [intOf]; omega
        · skip
          go_wp2_with fail
          go_roundw
          case rel => exact ⟨k + 1, t, hlt'.out, by simp, hI⟩
          case measure => have := hlt'.out; simp [intOf]; omega
    · have hk2 : k = s.size := by omega
      subst hk2
      have k1 : ¬ (s.size : Int) < (s.size : Int) := by omega
      have hback := conv_back (P := Tryd.prog) wr 53 9 5 w.heap.size s.size cap t Tryd.underlying53 Tryd.underlying5 Tryd.underlying9 hI.out.2.1.symm hI.out.2.2.2
      go_wp2_with fail
      go_ret
      exact ⟨⟨t, rfl, hI.out.2.2.1, hI.out.2.1⟩, hI.out.1⟩
end Bl
end Go.Proofs.YtoiilplnhecokaaDoor
