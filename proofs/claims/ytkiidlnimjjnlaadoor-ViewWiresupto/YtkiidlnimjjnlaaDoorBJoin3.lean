import Derived.Test.YtkiidlnimjjnlaaDoorBJoin2
namespace Go.Proofs.YtkiidlnimjjnlaaDoor
open Go.RowKit
open BerMath (lo)

/-- The tag byte. -/
def fb (c : Nat) (m : Bool) (t : Nat) : UInt8 := UInt8.ofNat (c * 64 + (if m then 32 else 0) + t)
theorem fb_n (c : Nat) (m : Bool) (t : Nat) (hc : c ≤ 3) (ht : t ≤ 30) : ((fb c m t).toNat : Int) = (c : Int) * 64 + (if m then 32 else 0) + (t : Int) := by
  unfold fb
  rw [UInt8.toNat_ofNat', Nat.mod_eq_of_lt (by split <;> omega)]
  split <;> omega
theorem or_tag (c t : Nat) (hc : c ≤ 3) (ht : t ≤ 30) : bits .or .u8 ((c * 64 : Nat) : Int) (t : Int) = ((c * 64 + t : Nat) : Int) := by
  have key : ∀ (c : Fin 4) (t : Fin 31), bits .or .u8 ((c.val * 64 : Nat) : Int) ((t.val : Nat) : Int) = ((c.val * 64 + t.val : Nat) : Int) := by decide +kernel
  exact key ⟨c, by omega⟩ ⟨t, by omega⟩
theorem or_made (c t : Nat) (hc : c ≤ 3) (ht : t ≤ 30) : bits .or .u8 ((c * 64 + t : Nat) : Int) 32 = ((c * 64 + t + 32 : Nat) : Int) := by
  have key : ∀ (c : Fin 4) (t : Fin 31), bits .or .u8 ((c.val * 64 + t.val : Nat) : Int) 32 = ((c.val * 64 + t.val + 32 : Nat) : Int) := by decide +kernel
  exact key ⟨c, by omega⟩ ⟨t, by omega⟩
theorem u8_small (n : Nat) (h : n < 256) : IntKind.u8.wrap (n : Int) = (n : Int) := by
  simp [IntKind.wrap, IntKind.bits, IntKind.signed]; omega

set_option maxHeartbeats 1000000 in
theorem putHeader_any (B : Nat) (v : Value) (l : List UInt8) (c t : Nat) (m : Bool) (n : Nat) (w : World) (hown0 : Own w B v l) (hB : B ≤ w.heap.size) (hl : l.length ≤ 274877906944) (hc : c ≤ 3) (ht : t ≤ 30) :
    Calls Tryd.prog 51 #[v, .int .i64 (c : Int), .bool m, .int .i64 (t : Int), .int .i64 (n : Int)] w fun r w' => ∃ v', r = .returned v' ∧ Own w' B v' (l ++ (fb c m t :: lenB n)) ∧ Below B w w' := by
  obtain ⟨C, hC⟩ : ∃ C : Int, C = (c : Int) := ⟨_, rfl⟩
  obtain ⟨T, hT⟩ : ∃ T : Int, T = (t : Int) := ⟨_, rfl⟩
  have h1 : IntKind.u8.wrap C = C := by rw [hC]; exact u8_small c (by omega)
  have h2 : IntKind.u8.wrap T = T := by rw [hT]; exact u8_small t (by omega)
  obtain ⟨C6, hC6⟩ : ∃ C6 : Int, C6 = ((c * 64 : Nat) : Int) := ⟨_, rfl⟩
  have h3 : IntKind.u8.wrap (C * 64) = C6 := by
    have e : C * 64 = ((c * 64 : Nat) : Int) := by rw [hC]; omega
    rw [e, hC6]; exact u8_small _ (by omega)
  obtain ⟨X, hX⟩ : ∃ X : Int, X = ((c * 64 + t : Nat) : Int) := ⟨_, rfl⟩
  have h4 : bits .or .u8 C6 T = X := by rw [hC6, hT, hX]; exact or_tag c t hc ht
  have h5 : bits .or .u8 X 32 = ((c * 64 + t + 32 : Nat) : Int) := by rw [hX]; exact or_made c t hc ht
  have hfb := fb_n c m t hc ht
  obtain ⟨f, hf⟩ : ∃ f, fb c m t = f := ⟨_, rfl⟩
  rw [hf] at hfb
  rw [hf, ← hC, ← hT]
  have HB : Below B w w := Below.refl _ _
  have hown := hown0
  clear hown0
  cases m with
  | true =>
    have h6 : bits .or .u8 X 32 = (f.toNat : Int) := by rw [h5, hfb]; simp; omega
    clear h5 hfb hX hC6 hf hC hT
    go_enter Tryd.func51, Tryd.ntmps51
    go_wp2_with (at_builtin; refine push_byte _ rfl _ _ rfl B _ ?u1l f rfl rfl ?u1a ?u1b ?u1c ?u1d; (case u1a => exact hown); (case u1b => exact Nat.le_trans hB HB.size); (case u1c => exact Nat.le_trans hl (by decide)); intro v1 w1 hown1 hb1; replace HB := HB.trans hb1; replace hown := hown1; clear hb1)
    refine (putLength_any B _ _ n _ hown (Nat.le_trans hB HB.size) (by simp only [List.length_append, List.length_cons, List.length_nil]; omega)).mono ?_
    rintro r w2 ⟨v2, rfl, hown2, hb2⟩
    go_wp2_with fail
    go_ret
    exact ⟨_, rfl, by simpa [List.append_assoc] using hown2, HB.trans hb2⟩
  | false =>
    have h6 : X = (f.toNat : Int) := by rw [hX, hfb]; simp
    rw [h6] at h4
    clear h5 hfb hX hC6 hf hC hT h6
    go_enter Tryd.func51, Tryd.ntmps51
    go_wp2_with (at_builtin; refine push_byte _ rfl _ _ rfl B _ ?u2l f rfl rfl ?u2a ?u2b ?u2c ?u2d; (case u2a => exact hown); (case u2b => exact Nat.le_trans hB HB.size); (case u2c => exact Nat.le_trans hl (by decide)); intro v1 w1 hown1 hb1; replace HB := HB.trans hb1; replace hown := hown1; clear hb1)
    refine (putLength_any B _ _ n _ hown (Nat.le_trans hB HB.size) (by simp only [List.length_append, List.length_cons, List.length_nil]; omega)).mono ?_
    rintro r w2 ⟨v2, rfl, hown2, hb2⟩
    go_wp2_with fail
    go_ret
    exact ⟨_, rfl, by simpa [List.append_assoc] using hown2, HB.trans hb2⟩
end Go.Proofs.YtkiidlnimjjnlaaDoor
