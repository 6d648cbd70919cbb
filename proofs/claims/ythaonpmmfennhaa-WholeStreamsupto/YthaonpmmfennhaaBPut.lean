import Derived.Test.YthaonpmmfennhaaBJoin3
namespace Go.Proofs.Ythaonpmmfennhaa
open Go.RowKit
open BerMath (lo)
set_option linter.unusedVariables false

/-- What lies below B stands, and whatever is no row of bytes. -/
def BelT (B : Nat) (w w' : World) : Prop := Below B w w' ∧ ∀ (k : Nat) (o : Obj), w.heap[k]? = some o → (∀ cs fz, o ≠ .cells cs 5 fz) → w'.heap[k]? = some o
theorem BelT.refl (B : Nat) (w : World) : BelT B w w := ⟨Below.refl _ _, fun _ _ h _ => h⟩
theorem BelT.trans {B : Nat} {a b c : World} (h : BelT B a b) (h' : BelT B b c) : BelT B a c := ⟨h.1.trans h'.1, fun k o hk ho => h'.2 k o (h.2 k o hk ho) ho⟩
theorem BelT.size {B : Nat} {a b : World} (h : BelT B a b) : a.heap.size ≤ b.heap.size := h.1.size
/-- One byte appended to a row of the call's own. -/
theorem push_byteT (w : World) {ops : Array Oper} {rest : List Oper} {o : Oper} {a : Act} {Q : Exit → Act → World → Prop} (hgd : o.guard = none) (s x : Operand)
    (ho : o.op = .call { callee := .builtin .append, args := #[s, x], argTypes := #[32, 32] }) (B : Nat) (v : Value) (l : List UInt8) (c : UInt8)
    (hs : a.eval s = v) (hx : a.eval x = .slice (some ⟨w.heap.size, 0, none⟩) 1 1) (hown : Own w B v l) (hB : B ≤ w.heap.size) (hl : l.length ≤ 1099511627776)
    (h : ∀ v' w', Own w' B v' (l ++ [c]) → BelT B w w' → wpList Try.prog ops Q rest (a.put o.dst v') w') :
    wpList Try.prog ops Q (o :: rest) a (w.alloc (.cells #[.int .u8 (c.toNat : Int)] 5)) := by
  obtain ⟨i0, hi, hz0, hz1, hz2⟩ := info_parts info_u8
  refine wpList_append_own _ hgd s x 32 ho B 5 i0 (.int .u8 0) 1 1 Try.underlying32 hi hz0 hz1 hz2 rfl (by decide) v l.length (bv l) hs (World.ownsRow.alloc hown _) ⟨w.heap.size, 0, none⟩ 1 1 [.int .u8 (c.toNat : Int)] hx rfl ?_ ?_ ?_ ?_ ?_ ?_
  · exact cell_one_new _ _ _
  · intro u hu; simp at hu; subst hu; rfl
  · unfold maxLen; omega
  · omega
  · simp; omega
  · intro v' w' h1 h2 _
    refine h v' w' ?_ ?_
    · unfold Own
      rw [bv_app, List.length_append]
      exact h1
    · refine ⟨((Below.refl _ _).alloc hB _).grown h2 (by simp; omega) (fun k hk => (hown.lt _ hk).1), ?_⟩
      intro k o hk ho
      refine (h2.block k (Nat.lt_of_lt_of_le (Array.getElem?_eq_some_iff.1 hk).1 (by simp)) (fun e => ?_)).trans ((Below.heap_alloc _ _ _ (Array.getElem?_eq_some_iff.1 hk).1).trans hk)
      rcases hown.2 with ⟨rfl, _⟩ | ⟨g, cap, cur, rfl, _, hgb, _⟩
      · simp [Value.ownBlock] at e
      · simp [Value.ownBlock] at e
        subst e
        rw [hgb] at hk
        injection hk with hk
        exact ho _ _ hk.symm
set_option maxRecDepth 100000 in
set_option maxHeartbeats 2000000 in
theorem putLength_t (B : Nat) (v : Value) (l : List UInt8) (n : Nat) (w : World) (hown0 : Own w B v l) (hB : B ≤ w.heap.size) (hl : l.length ≤ 549755813888) :
    Calls Try.prog 46 #[v, .int .i64 (n : Int)] w fun r w' => ∃ v', r = .returned v' ∧ Own w' B v' (l ++ lenB n) ∧ BelT B w w' := by
  have hLL : ∀ W, Hid (Calls Try.prog 49 #[.int .i64 (n : Int)] W fun r w' => r = .returned (.int .i64 (ll n : Int)) ∧ W = w') := fun W => longLength_any n W
  have hw1 := lo_wrap (n : Int)
  have hw2 := lo_wrap ((n : Int) / 256)
  have hw3 := lo_wrap ((n : Int) / 65536)
  have hw4 := lo_wrap ((n : Int) / 16777216)
  have HB : BelT B w w := BelT.refl _ _
  have hown := hown0
  clear hown0
  rcases ll_cases n with ⟨a, e⟩ | ⟨a, b, e⟩ | ⟨a, b, c, e⟩ | ⟨a, b, c, d, e⟩ | ⟨a, b, c, d, e⟩
  · have hlb : Hid (lenB n = [lo (n : Int)]) := by unfold Hid lenB; rw [if_pos a]
    rw [e] at hLL
    clear a e
    go_enter Try.func46, Try.ntmps46
    go_upto_region 11 with ((go_at_call 49; refine (hLL _).out.mono ?_; rintro r w1 ⟨rfl, rfl⟩))
    go_upto_region 12 with (at_builtin; refine push_byteT _ rfl _ _ rfl B _ ?qq1l (lo (n : Int)) rfl rfl ?qq1a ?qq1b ?qq1c ?qq1d; (case qq1a => exact hown); (case qq1b => exact Nat.le_trans hB HB.size); (case qq1c => first | exact Nat.le_trans hl (by decide) | (simp only [List.length_append, List.length_cons, List.length_nil]; omega)); intro v1 w1 hown1 hb1; replace HB := HB.trans hb1; replace hown := hown1; clear hb1)
    go_wp2_with fail
    go_ret
    exact ⟨_, rfl, by rw [hlb.out]; simpa [List.append_assoc] using hown, HB⟩
  · have hlb : Hid (lenB n = [129, lo (n : Int)]) := by unfold Hid lenB; rw [if_neg a, if_pos b]
    rw [e] at hLL
    obtain ⟨c0, hc0⟩ : ∃ c0 : UInt8, c0 = 129 := ⟨_, rfl⟩
    have hor : bits .or .u8 128 1 = (c0.toNat : Int) := by rw [hc0]; decide +kernel
    rw [← hc0] at hlb
    clear hc0
    clear a b e
    go_enter Try.func46, Try.ntmps46
    go_upto_region 11 with (first | (go_at_call 49; refine (hLL _).out.mono ?_; rintro r w1 ⟨rfl, rfl⟩) | (at_builtin; refine push_byteT _ rfl _ _ rfl B _ ?qq2l (c0) rfl rfl ?qq2a ?qq2b ?qq2c ?qq2d; (case qq2a => exact hown); (case qq2b => exact Nat.le_trans hB HB.size); (case qq2c => first | exact Nat.le_trans hl (by decide) | (simp only [List.length_append, List.length_cons, List.length_nil]; omega)); intro v1 w1 hown1 hb1; replace HB := HB.trans hb1; replace hown := hown1; clear hb1))
    go_upto_region 12 with (at_builtin; refine push_byteT _ rfl _ _ rfl B _ ?qq3l (lo (n : Int)) rfl rfl ?qq3a ?qq3b ?qq3c ?qq3d; (case qq3a => exact hown); (case qq3b => exact Nat.le_trans hB HB.size); (case qq3c => first | exact Nat.le_trans hl (by decide) | (simp only [List.length_append, List.length_cons, List.length_nil]; omega)); intro v1 w1 hown1 hb1; replace HB := HB.trans hb1; replace hown := hown1; clear hb1)
    go_wp2_with fail
    go_ret
    exact ⟨_, rfl, by rw [hlb.out]; simpa [List.append_assoc] using hown, HB⟩
  · have hlb : Hid (lenB n = [130, lo ((n : Int) / 256), lo (n : Int)]) := by unfold Hid lenB; rw [if_neg a, if_neg b, if_pos c]
    rw [e] at hLL
    obtain ⟨c0, hc0⟩ : ∃ c0 : UInt8, c0 = 130 := ⟨_, rfl⟩
    have hor : bits .or .u8 128 2 = (c0.toNat : Int) := by rw [hc0]; decide +kernel
    rw [← hc0] at hlb
    clear hc0
    clear a b c e
    go_enter Try.func46, Try.ntmps46
    go_upto_region 10 with (first | (go_at_call 49; refine (hLL _).out.mono ?_; rintro r w1 ⟨rfl, rfl⟩) | (at_builtin; refine push_byteT _ rfl _ _ rfl B _ ?qq4l (c0) rfl rfl ?qq4a ?qq4b ?qq4c ?qq4d; (case qq4a => exact hown); (case qq4b => exact Nat.le_trans hB HB.size); (case qq4c => first | exact Nat.le_trans hl (by decide) | (simp only [List.length_append, List.length_cons, List.length_nil]; omega)); intro v1 w1 hown1 hb1; replace HB := HB.trans hb1; replace hown := hown1; clear hb1))
    go_upto_region 11 with (at_builtin; refine push_byteT _ rfl _ _ rfl B _ ?qq5l (lo ((n : Int) / 256)) rfl rfl ?qq5a ?qq5b ?qq5c ?qq5d; (case qq5a => exact hown); (case qq5b => exact Nat.le_trans hB HB.size); (case qq5c => first | exact Nat.le_trans hl (by decide) | (simp only [List.length_append, List.length_cons, List.length_nil]; omega)); intro v1 w1 hown1 hb1; replace HB := HB.trans hb1; replace hown := hown1; clear hb1)
    go_upto_region 12 with (at_builtin; refine push_byteT _ rfl _ _ rfl B _ ?qq6l (lo (n : Int)) rfl rfl ?qq6a ?qq6b ?qq6c ?qq6d; (case qq6a => exact hown); (case qq6b => exact Nat.le_trans hB HB.size); (case qq6c => first | exact Nat.le_trans hl (by decide) | (simp only [List.length_append, List.length_cons, List.length_nil]; omega)); intro v1 w1 hown1 hb1; replace HB := HB.trans hb1; replace hown := hown1; clear hb1)
    go_wp2_with fail
    go_ret
    exact ⟨_, rfl, by rw [hlb.out]; simpa [List.append_assoc] using hown, HB⟩
  · have hlb : Hid (lenB n = [131, lo ((n : Int) / 65536), lo ((n : Int) / 256), lo (n : Int)]) := by unfold Hid lenB; rw [if_neg a, if_neg b, if_neg c, if_pos d]
    rw [e] at hLL
    obtain ⟨c0, hc0⟩ : ∃ c0 : UInt8, c0 = 131 := ⟨_, rfl⟩
    have hor : bits .or .u8 128 3 = (c0.toNat : Int) := by rw [hc0]; decide +kernel
    rw [← hc0] at hlb
    clear hc0
    clear a b c d e
    go_enter Try.func46, Try.ntmps46
    go_upto_region 9 with (first | (go_at_call 49; refine (hLL _).out.mono ?_; rintro r w1 ⟨rfl, rfl⟩) | (at_builtin; refine push_byteT _ rfl _ _ rfl B _ ?qq7l (c0) rfl rfl ?qq7a ?qq7b ?qq7c ?qq7d; (case qq7a => exact hown); (case qq7b => exact Nat.le_trans hB HB.size); (case qq7c => first | exact Nat.le_trans hl (by decide) | (simp only [List.length_append, List.length_cons, List.length_nil]; omega)); intro v1 w1 hown1 hb1; replace HB := HB.trans hb1; replace hown := hown1; clear hb1))
    go_upto_region 10 with (at_builtin; refine push_byteT _ rfl _ _ rfl B _ ?qq8l (lo ((n : Int) / 65536)) rfl rfl ?qq8a ?qq8b ?qq8c ?qq8d; (case qq8a => exact hown); (case qq8b => exact Nat.le_trans hB HB.size); (case qq8c => first | exact Nat.le_trans hl (by decide) | (simp only [List.length_append, List.length_cons, List.length_nil]; omega)); intro v1 w1 hown1 hb1; replace HB := HB.trans hb1; replace hown := hown1; clear hb1)
    go_upto_region 11 with (at_builtin; refine push_byteT _ rfl _ _ rfl B _ ?qq9l (lo ((n : Int) / 256)) rfl rfl ?qq9a ?qq9b ?qq9c ?qq9d; (case qq9a => exact hown); (case qq9b => exact Nat.le_trans hB HB.size); (case qq9c => first | exact Nat.le_trans hl (by decide) | (simp only [List.length_append, List.length_cons, List.length_nil]; omega)); intro v1 w1 hown1 hb1; replace HB := HB.trans hb1; replace hown := hown1; clear hb1)
    go_upto_region 12 with (at_builtin; refine push_byteT _ rfl _ _ rfl B _ ?qq10l (lo (n : Int)) rfl rfl ?qq10a ?qq10b ?qq10c ?qq10d; (case qq10a => exact hown); (case qq10b => exact Nat.le_trans hB HB.size); (case qq10c => first | exact Nat.le_trans hl (by decide) | (simp only [List.length_append, List.length_cons, List.length_nil]; omega)); intro v1 w1 hown1 hb1; replace HB := HB.trans hb1; replace hown := hown1; clear hb1)
    go_wp2_with fail
    go_ret
    exact ⟨_, rfl, by rw [hlb.out]; simpa [List.append_assoc] using hown, HB⟩
  · have hlb : Hid (lenB n = [132, lo ((n : Int) / 16777216), lo ((n : Int) / 65536), lo ((n : Int) / 256), lo (n : Int)]) := by unfold Hid lenB; rw [if_neg a, if_neg b, if_neg c, if_neg d]
    rw [e] at hLL
    obtain ⟨c0, hc0⟩ : ∃ c0 : UInt8, c0 = 132 := ⟨_, rfl⟩
    have hor : bits .or .u8 128 4 = (c0.toNat : Int) := by rw [hc0]; decide +kernel
    rw [← hc0] at hlb
    clear hc0
    clear a b c d e
    go_enter Try.func46, Try.ntmps46
    go_upto_region 8 with (first | (go_at_call 49; refine (hLL _).out.mono ?_; rintro r w1 ⟨rfl, rfl⟩) | (at_builtin; refine push_byteT _ rfl _ _ rfl B _ ?qq11l (c0) rfl rfl ?qq11a ?qq11b ?qq11c ?qq11d; (case qq11a => exact hown); (case qq11b => exact Nat.le_trans hB HB.size); (case qq11c => first | exact Nat.le_trans hl (by decide) | (simp only [List.length_append, List.length_cons, List.length_nil]; omega)); intro v1 w1 hown1 hb1; replace HB := HB.trans hb1; replace hown := hown1; clear hb1))
    go_upto_region 9 with (at_builtin; refine push_byteT _ rfl _ _ rfl B _ ?qq12l (lo ((n : Int) / 16777216)) rfl rfl ?qq12a ?qq12b ?qq12c ?qq12d; (case qq12a => exact hown); (case qq12b => exact Nat.le_trans hB HB.size); (case qq12c => first | exact Nat.le_trans hl (by decide) | (simp only [List.length_append, List.length_cons, List.length_nil]; omega)); intro v1 w1 hown1 hb1; replace HB := HB.trans hb1; replace hown := hown1; clear hb1)
    go_upto_region 10 with (at_builtin; refine push_byteT _ rfl _ _ rfl B _ ?qq13l (lo ((n : Int) / 65536)) rfl rfl ?qq13a ?qq13b ?qq13c ?qq13d; (case qq13a => exact hown); (case qq13b => exact Nat.le_trans hB HB.size); (case qq13c => first | exact Nat.le_trans hl (by decide) | (simp only [List.length_append, List.length_cons, List.length_nil]; omega)); intro v1 w1 hown1 hb1; replace HB := HB.trans hb1; replace hown := hown1; clear hb1)
    go_upto_region 11 with (at_builtin; refine push_byteT _ rfl _ _ rfl B _ ?qq14l (lo ((n : Int) / 256)) rfl rfl ?qq14a ?qq14b ?qq14c ?qq14d; (case qq14a => exact hown); (case qq14b => exact Nat.le_trans hB HB.size); (case qq14c => first | exact Nat.le_trans hl (by decide) | (simp only [List.length_append, List.length_cons, List.length_nil]; omega)); intro v1 w1 hown1 hb1; replace HB := HB.trans hb1; replace hown := hown1; clear hb1)
    go_upto_region 12 with (at_builtin; refine push_byteT _ rfl _ _ rfl B _ ?qq15l (lo (n : Int)) rfl rfl ?qq15a ?qq15b ?qq15c ?qq15d; (case qq15a => exact hown); (case qq15b => exact Nat.le_trans hB HB.size); (case qq15c => first | exact Nat.le_trans hl (by decide) | (simp only [List.length_append, List.length_cons, List.length_nil]; omega)); intro v1 w1 hown1 hb1; replace HB := HB.trans hb1; replace hown := hown1; clear hb1)
    go_wp2_with fail
    go_ret
    exact ⟨_, rfl, by rw [hlb.out]; simpa [List.append_assoc] using hown, HB⟩
set_option maxHeartbeats 1000000 in
theorem putHeader_t (B : Nat) (v : Value) (l : List UInt8) (c t : Nat) (m : Bool) (n : Nat) (w : World) (hown0 : Own w B v l) (hB : B ≤ w.heap.size) (hl : l.length ≤ 274877906944) (hc : c ≤ 3) (ht : t ≤ 30) :
    Calls Try.prog 31 #[v, .int .i64 (c : Int), .bool m, .int .i64 (t : Int), .int .i64 (n : Int)] w fun r w' => ∃ v', r = .returned v' ∧ Own w' B v' (l ++ (fb c m t :: lenB n)) ∧ BelT B w w' := by
  obtain ⟨C, hC⟩ : ∃ C : Int, C = (c : Int) := ⟨_, rfl⟩
  obtain ⟨T, hT⟩ : ∃ T : Int, T = (t : Int) := ⟨_, rfl⟩
  have h1 : IntKind.u8.wrap C = C := by rw [hC]; exact u8_small c (by omega)
  have h2 : IntKind.u8.wrap T = T := by rw [hT]; exact u8_small t (by omega)
  obtain ⟨C6, hC6⟩ : ∃ C6 : Int, C6 = ((c * 64 : Nat) : Int) := ⟨_, rfl⟩
  have h3 : IntKind.u8.wrap (C * 64) = C6 := by
    have e : C * 64 = ((c * 64 : Nat) : Int) := by rw [hC]; omega
    rw [e, hC6]; exact u8_small _ (by omega)
  obtain ⟨X, hX⟩ : ∃ X : Int, X = ((c * 64 + t : Nat) : Int) := ⟨_, rfl⟩
  have h4 : bits .or .u8 C6 T = X := by rw [hC6, hT, hX]; exact or_tag c t hc ht
  have h5 : bits .or .u8 X 32 = ((c * 64 + t + 32 : Nat) : Int) := by rw [hX]; exact or_made c t hc ht
  have hfb := fb_n c m t hc ht
  obtain ⟨f, hf⟩ : ∃ f, fb c m t = f := ⟨_, rfl⟩
  rw [hf] at hfb
  rw [hf, ← hC, ← hT]
  have HB : BelT B w w := BelT.refl _ _
  have hown := hown0
  clear hown0
  cases m with
  | true =>
    have h6 : bits .or .u8 X 32 = (f.toNat : Int) := by rw [h5, hfb]; simp; omega
    clear h5 hfb hX hC6 hf hC hT
    go_enter Try.func31, Try.ntmps31
    go_wp2_with (at_builtin; refine push_byteT _ rfl _ _ rfl B _ ?uu1l f rfl rfl ?uu1a ?uu1b ?uu1c ?uu1d; (case uu1a => exact hown); (case uu1b => exact Nat.le_trans hB HB.size); (case uu1c => exact Nat.le_trans hl (by decide)); intro v1 w1 hown1 hb1; replace HB := HB.trans hb1; replace hown := hown1; clear hb1)
    refine (putLength_t B _ _ n _ hown (Nat.le_trans hB HB.size) (by simp only [List.length_append, List.length_cons, List.length_nil]; omega)).mono ?_
    rintro r w2 ⟨v2, rfl, hown2, hb2⟩
    go_wp2_with fail
    go_ret
    exact ⟨_, rfl, by simpa [List.append_assoc] using hown2, HB.trans hb2⟩
  | false =>
    have h6 : X = (f.toNat : Int) := by rw [hX, hfb]; simp
    rw [h6] at h4
    clear h5 hfb hX hC6 hf hC hT h6
    go_enter Try.func31, Try.ntmps31
    go_wp2_with (at_builtin; refine push_byteT _ rfl _ _ rfl B _ ?uu2l f rfl rfl ?uu2a ?uu2b ?uu2c ?uu2d; (case uu2a => exact hown); (case uu2b => exact Nat.le_trans hB HB.size); (case uu2c => exact Nat.le_trans hl (by decide)); intro v1 w1 hown1 hb1; replace HB := HB.trans hb1; replace hown := hown1; clear hb1)
    refine (putLength_t B _ _ n _ hown (Nat.le_trans hB HB.size) (by simp only [List.length_append, List.length_cons, List.length_nil]; omega)).mono ?_
    rintro r w2 ⟨v2, rfl, hown2, hb2⟩
    go_wp2_with fail
    go_ret
    exact ⟨_, rfl, by simpa [List.append_assoc] using hown2, HB.trans hb2⟩
end Go.Proofs.Ythaonpmmfennhaa
