import Derived.Test.YtilglidhlcmfbaaDoorBbUn
namespace Go.Proofs.YtilglidhlcmfbaaDoor
open Go.RowKit
open TextMath (al grp b64 bo wv ch Gd gF dec unb preB thr gn)
set_option linter.unusedVariables false

/-- How far Unbase64 has come: behind a group that isn't full nothing may stand. -/
def UbAt (l : List UInt8) (k : Nat) (o : List UInt8) : Prop :=
  ((0 < k ∧ l.getD (k - 1) 0 = 61 ∧ k < l.length) → unb l 0 = .error k) ∧ (¬ (0 < k ∧ l.getD (k - 1) 0 = 61 ∧ k < l.length) → unb l 0 = preB o (unb (l.drop k) k))
theorem ubAt_zero (l : List UInt8) : UbAt l 0 [] := ⟨fun h => absurd h.1 (by omega), fun _ => by rw [List.drop_zero, TextMath.preB_nil]⟩
theorem preB_err (o : List UInt8) (p : Nat) : preB o (.error p) = .error p := rfl
theorem ubAt_bad {l o : List UInt8} {k : Nat} (h : UbAt l k o) (hk : k < l.length) (hn : ¬ (0 < k ∧ l.getD (k - 1) 0 = 61)) (hg : gF ((l.drop k).take 4) < 4) : unb l 0 = .error (k + gF ((l.drop k).take 4)) := by
  rw [h.2 (fun q => hn ⟨q.1, q.2.1⟩), TextMath.unb_bad _ k (by rw [List.length_drop]; omega) hg, preB_err]
theorem ubAt_step {l o : List UInt8} {k : Nat} (h : UbAt l k o) (hk : k < l.length) (hn : ¬ (0 < k ∧ l.getD (k - 1) 0 = 61)) (hg : ¬ gF ((l.drop k).take 4) < 4) : UbAt l (k + 4) (o ++ dec ((l.drop k).take 4)) := by
  have h2 := h.2 (fun q => hn ⟨q.1, q.2.1⟩)
  have hlen : (l.drop k).length ≠ 0 := by rw [List.length_drop]; omega
  have hgd : (l.drop k).getD 3 0 = l.getD (k + 4 - 1) 0 := by
    simp [List.getD, List.getElem?_drop]
  constructor
  · rintro ⟨_, q1, q2⟩
    rw [h2, TextMath.unb_behind _ k hlen hg ⟨by rw [hgd]; exact q1, by rw [List.length_drop]; omega⟩, preB_err]
  · intro q
    rw [h2, TextMath.unb_step _ k hlen hg (fun z => q ⟨by omega, by rw [← hgd]; exact z.1, by have := z.2; rw [List.length_drop] at this; omega⟩), TextMath.preB_preB, List.drop_drop]
theorem ubAt_end {l o : List UInt8} {k : Nat} (h : UbAt l k o) (hk : l.length ≤ k) : unb l 0 = .ok o := by
  rw [h.2 (fun q => by omega), List.drop_eq_nil_of_le hk, TextMath.unb_nil]
  simp [preB]
theorem gF_lt_short (l : List UInt8) (h : l.length < 4) : gF l < 4 := by have := (TextMath.gF_le l).2; omega
theorem gF_not (x y z t : UInt8) (h : Gd [x, y, z, t] = false) : gF [x, y, z, t] < 4 := by
  have h1 := (TextMath.gF_le [x, y, z, t]).1
  rcases Nat.lt_or_ge (gF [x, y, z, t]) 4 with q | q
  · exact q
  · have e : gF [x, y, z, t] = 4 := by omega
    have := (TextMath.gF_four _ e).2
    simp at this
    rw [h] at this
    cases this
theorem gF_yes (x y z t : UInt8) (h : Gd [x, y, z, t] = true) : ¬ gF [x, y, z, t] < 4 := by rw [TextMath.gF_good x y z t [] h]; omega

set_option maxHeartbeats 2000000 in
theorem rUnbase64_any (s : ByteArray) (w : World) (hm : s.size ≤ 16777216) :
    Calls Tryd.prog 12 #[.string s] w fun e w' => e = .returned (ubV s.size (unb s.data.toList 0)) ∧ Below w.heap.size w w' := by
  have hL : Hid (s.data.toList.length = s.size) := size_l s
  obtain ⟨R, hR⟩ : ∃ R, unb s.data.toList 0 = R := ⟨_, rfl⟩
  have hR' : Hid (unb s.data.toList 0 = R) := hR
  rw [hR]
  clear hR
  go_enter Tryd.func12, Tryd.ntmps12
  go_wp2_with fail
  go_loopw [5, 6] (fun bv' iv wr => ∃ (k : Nat) (o : List UInt8), k ≤ s.size ∧ o.length ≤ k ∧ iv = .int .i64 (k : Int) ∧ Hid (OwnB wr w.heap.size bv' o) ∧ Hid (Below w.heap.size w wr) ∧ Hid (UbAt s.data.toList k o)) (fun _ iv _ => s.size - (intOf iv).toNat)
  case atStart => exact ⟨0, [], by omega, by simp, rfl, World.ownsRow_nil _ _ _ _, Below.refl _ _, ubAt_zero _⟩
  case round =>
    obtain ⟨k, o, hk, ho, rfl, hown, hB, hU⟩ := hrel
    obtain ⟨va, vn, vc, rfl⟩ := ownB_slice hown.out
    by_cases hlt : k < s.size
    · have k1 : (k : Int) < (s.size : Int) := Int.ofNat_lt.2 hlt
      have k0 : (0 : Int) ≤ (k : Int) := Int.natCast_nonneg _
      have hkl : Hid (k < s.data.toList.length) := by unfold Hid; rw [hL.out]; exact hlt
      by_cases hpad : 0 < k ∧ s.data.toList.getD (k - 1) 0 = 61
      · obtain ⟨hk0, hp⟩ := hpad
        have hres : Hid (ubV s.size R = .tuple #[.string ⟨#[]⟩, .int .i64 12, .int .i64 (k : Int)]) := by
          unfold Hid
          rw [← hR'.out, hU.out.1 ⟨hk0, hp, hkl.out⟩]
          rfl
        obtain ⟨k', hk'⟩ : ∃ k', k = k' + 1 := ⟨k - 1, by omega⟩
        have hks : k' < s.size := by omega
        have e1 : (k : Int) > 0 := by omega
        have e2 : wrap64 ((k : Int) - 1) = (k' : Int) := by rw [IntWalk.wrap64_in] <;> omega
        have e2' : (k : Int) - 1 = (k' : Int) := by omega
        have e3 : (0 : Int) ≤ (k' : Int) := Int.natCast_nonneg _
        have e4 : (k' : Int) < (s.size : Int) := Int.ofNat_lt.2 hks
        have hc : s[k'].toNat = 61 := by
          have : k - 1 = k' := by omega
          rw [this, getD_s s k' hks] at hp
          rw [hp]; rfl
        have hc' : (((s[k'].toNat : Nat) : Int) == 61) = true := by rw [hc]; rfl
        clear hp hc hk' hk0 hU hown
        go_wp2_with fail
        go_ret3
        exact ⟨by rw [hres.out]; rfl, hB.out⟩
      · have hguard : (((decide ((k : Int) > 0)) = false) ∨ (∃ k', k = k' + 1 ∧ k' < s.size ∧ ∀ h : k' < s.size, (((s[k']'h).toNat : Int) == 61) = false)) := by
          by_cases hk0 : 0 < k
          · refine Or.inr ⟨k - 1, by omega, by omega, fun h => ?_⟩
            rw [beq_eq_false_iff_ne]
            intro q
            refine hpad ⟨hk0, ?_⟩
            rw [getD_s s (k - 1) h]
            exact UInt8.toNat_inj.1 (by simpa using Int.ofNat.inj q)
          · exact Or.inl (by simp; omega)
        have hpad' : Hid (¬ (0 < k ∧ s.data.toList.getD (k - 1) 0 = 61)) := hpad
        clear hpad
        by_cases h4 : k + 4 ≤ s.size
        · have e4s : ¬ ((k : Int) + 4 > (s.size : Int)) := by omega
          have hsz : (s.extract k (k + 4)).size = 4 := by rw [ext_size _ _ _ (by omega) h4]; omega
          obtain ⟨x, y, z, u, hgx⟩ := four_l _ hsz
          have hl4 := ext_l s k
          rw [hgx] at hl4
          have hby := bytesOf_any (s.extract k (k + 4)) x y z u wr hgx
          have hsh : ∀ W, Hid (Calls Tryd.prog 32 #[.string (s.extract k (k + 4))] W fun e w' => e = .returned (.int .i64 (gF [x, y, z, u] : Int)) ∧ Below W.heap.size W w') := by
            intro W
            have h := short_any (s.extract k (k + 4)) W (by rw [hsz]; omega)
            rw [hgx] at h
            exact h
          clear hsz hgx
          cases hq : Gd [x, y, z, u] with
          | true =>
            have hstep : Hid (UbAt s.data.toList (k + 4) (o ++ bO [x, y, z, u])) := by
              have h := ubAt_step hU.out hkl.out hpad'.out (by rw [← hl4]; exact gF_yes x y z u hq)
              rw [← hl4] at h
              rw [bO_yes hq]
              exact h
            have hbl : Hid ((bO [x, y, z, u]).length ≤ 3) := by unfold Hid; rw [bO_yes hq]; exact (TextMath.good_grp x y z u hq).2.2.2.2
            rw [hq] at hby
            clear hl4 hq hsh hU
            generalize bO [x, y, z, u] = D at *
            rcases hguard with hg0 | ⟨k', hk', hks, hch⟩
            · have hg1 : ¬ 0 < k := by simpa using hg0
              go_wp2_with (first | (go_at_call 33; refine hby.mono ?_; rintro e w1 ⟨rfl, hb1⟩) | (at_builtin; refine push_strB _ rfl _ _ rfl w.heap.size _ o (S D) rfl rfl ?_ ?_ ?_ ?_; (exact ownB_below hown.out hb1); (exact Nat.le_trans hB.out.size hb1.size); (rw [S_size]; have := hbl.out; omega); intro v2 w2 ho2 hb2))
              go_roundw
              case rel =>
                refine ⟨k + 4, o ++ D, by omega, by rw [List.length_append]; have := hbl.out; omega, by go_num, ?_, ?_, hstep⟩
                · rw [S_l] at ho2; exact ho2
                · exact (hB.out.trans (hb1.mono hB.out.size)).trans hb2
              case measure => simp [intOf]; omega
            · have e1 : (k : Int) > 0 := by omega
              have e2 : wrap64 ((k : Int) - 1) = (k' : Int) := by rw [IntWalk.wrap64_in] <;> omega
              have e2' : (k : Int) - 1 = (k' : Int) := by omega
              have e3 : (0 : Int) ≤ (k' : Int) := Int.natCast_nonneg _
              have e4 : (k' : Int) < (s.size : Int) := Int.ofNat_lt.2 hks
              have hc' := hch hks
              clear hch hk'
              go_wp2_with (first | (go_at_call 33; refine hby.mono ?_; rintro e w1 ⟨rfl, hb1⟩) | (at_builtin; refine push_strB _ rfl _ _ rfl w.heap.size _ o (S D) rfl rfl ?_ ?_ ?_ ?_; (exact ownB_below hown.out hb1); (exact Nat.le_trans hB.out.size hb1.size); (rw [S_size]; have := hbl.out; omega); intro v2 w2 ho2 hb2))
              go_roundw
              case rel =>
                refine ⟨k + 4, o ++ D, by omega, by rw [List.length_append]; have := hbl.out; omega, by go_num, ?_, ?_, hstep⟩
                · rw [S_l] at ho2; exact ho2
                · exact (hB.out.trans (hb1.mono hB.out.size)).trans hb2
              case measure => simp [intOf]; omega
          | false =>
            have hgl := gF_not x y z u hq
            have hres : Hid (ubV s.size R = .tuple #[.string ⟨#[]⟩, .int .i64 12, .int .i64 ((k : Int) + (gF [x, y, z, u] : Int))]) := by
              unfold Hid
              rw [← hR'.out, ubAt_bad hU.out hkl.out hpad'.out (by rw [← hl4]; exact hgl), ← hl4]
              simp [ubV]
            rw [hq] at hby
            clear hl4 hq hU
            generalize gF [x, y, z, u] = F at *
            rcases hguard with hg0 | ⟨k', hk', hks, hch⟩
            · have hg1 : ¬ 0 < k := by simpa using hg0
              go_wp2_with (first | (go_at_call 33; refine hby.mono ?_; rintro e w1 ⟨rfl, hb1⟩) | (go_at_call 32; refine (hsh _).out.mono ?_; rintro e w2 ⟨rfl, hb2⟩))
              go_ret3
              exact ⟨by rw [hres.out]; rfl, (hB.out.trans (hb1.mono hB.out.size)).trans (hb2.mono (Nat.le_trans hB.out.size hb1.size))⟩
            · have e1 : (k : Int) > 0 := by omega
              have e2 : wrap64 ((k : Int) - 1) = (k' : Int) := by rw [IntWalk.wrap64_in] <;> omega
              have e2' : (k : Int) - 1 = (k' : Int) := by omega
              have e3 : (0 : Int) ≤ (k' : Int) := Int.natCast_nonneg _
              have e4 : (k' : Int) < (s.size : Int) := Int.ofNat_lt.2 hks
              have hc' := hch hks
              clear hch hk'
              go_wp2_with (first | (go_at_call 33; refine hby.mono ?_; rintro e w1 ⟨rfl, hb1⟩) | (go_at_call 32; refine (hsh _).out.mono ?_; rintro e w2 ⟨rfl, hb2⟩))
              go_ret3
              exact ⟨by rw [hres.out]; rfl, (hB.out.trans (hb1.mono hB.out.size)).trans (hb2.mono (Nat.le_trans hB.out.size hb1.size))⟩
        · have e4s : (k : Int) + 4 > (s.size : Int) := by omega
          have hsz : (s.extract k s.size).size = s.size - k := ext_size _ _ _ (by omega) (Nat.le_refl _)
          have hl4 := ext_s s k (by omega)
          have hsh := short_any (s.extract k s.size) wr (by rw [hsz]; omega)
          have hgl := gF_lt_short (s.extract k s.size).data.toList (by rw [size_l, hsz]; omega)
          have hres : Hid (ubV s.size R = .tuple #[.string ⟨#[]⟩, .int .i64 12, .int .i64 ((k : Int) + (gF (s.extract k s.size).data.toList : Int))]) := by
            unfold Hid
            rw [← hR'.out, ubAt_bad hU.out hkl.out hpad'.out (by rw [← hl4]; exact hgl), ← hl4]
            simp [ubV]
          clear hl4 hU hsz
          generalize gF (s.extract k s.size).data.toList = F at *
          rcases hguard with hg0 | ⟨k', hk', hks, hch⟩
          · have hg1 : ¬ 0 < k := by simpa using hg0
            go_wp2_with (go_at_call 32; refine hsh.mono ?_; rintro e w2 ⟨rfl, hb2⟩)
            go_ret3
            exact ⟨by rw [hres.out]; rfl, hB.out.trans (hb2.mono hB.out.size)⟩
          · have e1 : (k : Int) > 0 := by omega
            have e2 : wrap64 ((k : Int) - 1) = (k' : Int) := by rw [IntWalk.wrap64_in] <;> omega
            have e2' : (k : Int) - 1 = (k' : Int) := by omega
            have e3 : (0 : Int) ≤ (k' : Int) := Int.natCast_nonneg _
            have e4 : (k' : Int) < (s.size : Int) := Int.ofNat_lt.2 hks
            have hc' := hch hks
            clear hch hk'
            go_wp2_with (go_at_call 32; refine hsh.mono ?_; rintro e w2 ⟨rfl, hb2⟩)
            go_ret3
            exact ⟨by rw [hres.out]; rfl, hB.out.trans (hb2.mono hB.out.size)⟩
    · have hres : Hid (ubV s.size R = .tuple #[.string (S o), .int .i64 0, .int .i64 (s.size : Int)]) := by
        unfold Hid
        rw [← hR'.out, ubAt_end hU.out (by rw [hL.out]; omega)]
        rfl
      have hcv := ownB_conv hown.out
      have k1 : ¬ (k : Int) < (s.size : Int) := by omega
      clear hU hown
      go_wp2_with fail
      go_ret3
      exact ⟨by rw [hres.out]; rfl, hB.out⟩
end Go.Proofs.YtilglidhlcmfbaaDoor
