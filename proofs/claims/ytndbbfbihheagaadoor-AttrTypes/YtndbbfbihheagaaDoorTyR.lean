import Derived.Test.YtndbbfbihheagaaDoorTyI
import Derived.Test.YtndbbfbihheagaaDoorAtRefRow2
import Derived.Lib.SlBytesConst
namespace Go.Proofs.YtndbbfbihheagaaDoor
namespace Ty
open Go.RowKit
set_option linter.unusedVariables false
set_option maxRecDepth 100000

/-- What mark writes behind its word. -/
def mkD : Nat → Nat → List UInt8
  | 0, _ => []
  | f + 1, n => if n = 0 then [] else UInt8.ofNat (48 + n % 10) :: mkD f (n / 10)
def mk (n : Nat) : List UInt8 := [109, 97, 114, 107, 32] ++ mkD n n
theorem mkD_zero (f : Nat) : mkD f 0 = [] := by cases f <;> rfl
theorem mk_digit (m : Nat) (c : UInt8) (hc : UInt8.ofNat (48 + m % 10) = c) : IntKind.u8.wrap ((48 : Int) + ((m % 10 : Nat) : Int)) = (c.toNat : Int) := by
  subst hc
  rw [UInt8.toNat_ofNat']
  simp only [IntKind.wrap, IntKind.bits, IntKind.signed]
  simp

set_option maxHeartbeats 1000000 in
theorem mark_any (n : Nat) (hn : n ≤ 100000) (w : World) :
    Calls Tryd.prog 7 #[.int .i64 (n : Int)] w fun e w' => e = .returned (.string (S (mk n))) ∧ Below w.heap.size w w' := by
  have hn' : Hid (n ≤ 100000) := hn
  clear hn
  have kc := Lib.run_convert_bytes_const (P := Tryd.prog) w 46 5 #[.int .u8 109, .int .u8 97, .int .u8 114, .int .u8 107, .int .u8 32] 5 5 Tryd.underlying46 Tryd.underlying5
  simp only [List.size_toArray, List.length_cons, List.length_nil, Nat.reduceAdd] at kc
  have h0 : OwnG (w.alloc (.cells #[.int .u8 109, .int .u8 97, .int .u8 114, .int .u8 107, .int .u8 32] 5 (5, 6))) w.heap.size (.slice (some ⟨w.heap.size, 0, none⟩) 5 5) [109, 97, 114, 107, 32] :=
    ⟨w.heap.size, 5, _, (5, 6), rfl, Nat.le_refl _, World.alloc_heap_new w _, Or.inr (Nat.le_refl _), Nat.le_refl _, by unfold maxLen; omega, rfl, rfl⟩
  have hb0 : Below w.heap.size w (w.alloc (.cells #[.int .u8 109, .int .u8 97, .int .u8 114, .int .u8 107, .int .u8 32] 5 (5, 6))) := (Below.refl _ _).alloc (Nat.le_refl _) _
  have hI0 : Hid (OwnG (w.alloc (.cells #[.int .u8 109, .int .u8 97, .int .u8 114, .int .u8 107, .int .u8 32] 5 (5, 6))) w.heap.size (.slice (some ⟨w.heap.size, 0, none⟩) 5 5) [109, 97, 114, 107, 32] ∧ Below w.heap.size w (w.alloc (.cells #[.int .u8 109, .int .u8 97, .int .u8 114, .int .u8 107, .int .u8 32] 5 (5, 6)))) := ⟨h0, hb0⟩
  clear h0 hb0
  go_enter Tryd.func7, Tryd.ntmps7
  go_wp2_with fail
  go_loopw [0, 3] (fun nv vv wr => ∃ (m f : Nat) (b : List UInt8), nv = .int .i64 (m : Int) ∧ m ≤ 100000 ∧ Hid (m ≤ f ∧ b ++ mkD f m = mk n ∧ b.length + f ≤ n + 5) ∧ Hid (OwnG wr w.heap.size vv b ∧ Below w.heap.size w wr)) (fun nv _ _ => (intOf nv).toNat)
  case atStart => exact ⟨n, n, _, rfl, hn'.out, ⟨Nat.le_refl _, rfl, by simp; omega⟩, hI0⟩
  case round =>
    obtain ⟨m, f, b, rfl, hm, hF, hO⟩ := hrel
    clear hI0
    obtain ⟨va, vn, vc, rfl⟩ : ∃ a n c, u3 = Value.slice a n c := by
      obtain ⟨g, cap, cur, fz, e, _⟩ := hO.out.1
      exact ⟨_, _, _, e⟩
    have m0 : (0 : Int) ≤ (m : Int) := Int.natCast_nonneg _
    by_cases hz : m = 0
    · subst hz
      have hcv := ownG_conv hO.out.1
      have hbe : b = mk n := by have := hF.out.2.1; rw [mkD_zero, List.append_nil] at this; exact this
      rw [hbe] at hcv
      have hbel := hO.out.2
      clear hF hO hbe
      go_wp2_with fail
      go_ret
      exact ⟨rfl, hbel⟩
    · have hp : (0 : Int) < (m : Int) := by omega
      obtain ⟨f', rfl⟩ : ∃ f', f = f' + 1 := ⟨f - 1, by have := hF.out.1; omega⟩
      obtain ⟨c, hc⟩ : ∃ c, UInt8.ofNat (48 + m % 10) = c := ⟨_, rfl⟩
      have h1 : (m : Int).tmod 10 = ((m % 10 : Nat) : Int) := by rw [Int.tmod_eq_emod_of_nonneg m0]; omega
      have h2 : (m : Int).tdiv 10 = ((m / 10 : Nat) : Int) := by rw [Int.tdiv_eq_ediv_of_nonneg m0]; omega
      have h3 := mk_digit m c hc
      have hN : Hid (m / 10 ≤ f' ∧ (b ++ [c]) ++ mkD f' (m / 10) = mk n ∧ (b ++ [c]).length + f' ≤ n + 5 ∧ m / 10 < m ∧ m / 10 ≤ 100000 ∧ b.length ≤ 109951162777 ∧ w.heap.size ≤ wr.heap.size) := by
        obtain ⟨q1, q2, q3⟩ := hF.out
        have := hn'.out
        refine ⟨by omega, ?_, by simp; omega, by omega, by omega, by omega, hO.out.2.size⟩
        rw [← q2, List.append_assoc]
        congr 1
        show [c] ++ mkD f' (m / 10) = (if m = 0 then [] else UInt8.ofNat (48 + m % 10) :: mkD f' (m / 10))
        rw [if_neg hz, hc]
        rfl
      obtain ⟨d, hd⟩ : ∃ d, m % 10 = d := ⟨_, rfl⟩
      have hd9 : (d : Int) < 10 := by omega
      have hd0 : (0 : Int) ≤ (d : Int) := Int.natCast_nonneg _
      obtain ⟨q, hq⟩ : ∃ q, m / 10 = q := ⟨_, rfl⟩
      rw [hd] at h1 h3
      rw [hq] at h2 hN
      have hm1 : (m : Int) ≤ 100000 := by omega
      have hz' : ¬ (m : Int) = 0 := by omega
      obtain ⟨wx, hwx⟩ : ∃ wx, wr.alloc (.cells #[.int .u8 (c.toNat : Int)] 5) = wx := ⟨_, rfl⟩
      have hbx : Hid (Below w.heap.size wr wx) := by unfold Hid; rw [← hwx]; exact (Below.refl _ _).alloc hN.out.2.2.2.2.2.2 _
      have hOx : OwnG wx w.heap.size (.slice va vn vc) b := by
        obtain ⟨g, cap, cur, fz, e, q1, q2, q3⟩ := hO.out.1
        exact ⟨g, cap, cur, fz, e, q1, by rw [← hwx, Below.heap_alloc _ _ _ (Array.getElem?_eq_some_iff.1 q2).1]; exact q2, q3⟩
      obtain ⟨v', w', hr, hO', hb'⟩ := append_byteG wx 46 w.heap.size (.slice va vn vc) b c wr.heap.size hOx (by rw [← hwx]; exact World.alloc_heap_new wr _) (Nat.le_trans hN.out.2.2.2.2.2.2 hbx.out.size) (by have := hN.out.2.2.2.2.2.1; omega)
      have hfin : Hid (OwnG w' w.heap.size v' (b ++ [c]) ∧ Below w.heap.size w w') := ⟨hO', hO.out.2.trans (hbx.out.trans hb')⟩
      clear hF hc hd hq hz hm hOx hO' hb' hbx
      go_wp2_with (at_builtin; refine Lib.wpList_append_run _ rfl _ _ _ _ rfl _ _ rfl rfl _ _ hr ?_)
      have hq2 : wrap64 (q : Int) = (q : Int) := (by have hq1 := hN.out.2.2.2.2.1; unfold wrap64; omega)
      rw [hq2]
      refine ⟨⟨q, f', b ++ [c], rfl, hN.out.2.2.2.2.1, ⟨hN.out.1, hN.out.2.1, hN.out.2.2.1⟩, hfin⟩, ?_⟩
      have := hN.out.2.2.2.1
      simp [intOf]
      omega
end Ty
end Go.Proofs.YtndbbfbihheagaaDoor
