import Derived.Test.YtdjfjoidmnciiaaSgD
namespace Go.Proofs.Ytdjfjoidmnciiaa
open Go.RowKit Go.Sort Go.Lib
open SgMath (Inc setOf srt less_iff ltT ltI gm Lst Chs above)
set_option linter.unusedVariables false
set_option maxRecDepth 100000

set_option maxHeartbeats 1000000 in
theorem rgrams_any (s : ByteArray) (w : World) (hs : s.size ≤ 1048576) :
    Calls Try.prog 6 #[.string s] w fun e w' => ∃ v, e = .returned v ∧ OwnS w' w.heap.size v (setOf (gm s.data.toList (s.size - 2))) ∧ Below w.heap.size w w' := by
  have hs' : Hid (s.size ≤ 1048576) := hs
  clear hs
  go_enter Try.func6, Try.ntmps6
  go_wp2_with fail
  go_loopw [3, 4] (fun lv iv wr => ∃ k : Nat, k ≤ s.size - 2 ∧ iv = .int .i64 (k : Int) ∧ Hid (OwnS wr w.heap.size lv (gm s.data.toList k)) ∧ Below w.heap.size w wr) (fun lv _ _ => s.size + 4 - lenV lv)
  case atStart => exact ⟨0, Nat.zero_le _, rfl, ownS_nil _ _, Below.refl _ _⟩
  case round =>
    obtain ⟨k, hk, rfl, hown, HB⟩ := hrel
    have hsz := hs'.out
    obtain ⟨la, lc, rfl⟩ := ownS_slice hown.out
    have hBs : w.heap.size ≤ wr.heap.size := HB.size
    have hgl : Hid ((gm s.data.toList k).length ≤ 8388608) := by unfold Hid; rw [SgMath.gm_len]; omega
    obtain ⟨e, he⟩ : ∃ e, e = k + 3 := ⟨_, rfl⟩
    obtain ⟨w1, w2, w3, w4⟩ := ws3 k (by omega)
    rw [← he] at w1
    by_cases hlt : e ≤ s.size
    · have hcut := cut3 s k
      rw [← he] at hcut
      have i0 : (0 : Int) ≤ (k : Int) := Int.natCast_nonneg _
      have i1 : (k : Int) ≤ (e : Int) := by omega
      have i2 : (e : Int) ≤ (s.size : Int) := Int.ofNat_le.2 hlt
      have hgs := SgMath.gm_succ s.data.toList k
      obtain ⟨m, hm⟩ : ∃ m, (s.data.toList.drop k).take 3 = m := ⟨_, rfl⟩
      rw [hm] at hcut hgs
      have hgs' : Hid (gm s.data.toList (k + 1) = gm s.data.toList k ++ [m]) := hgs
      have hfin : Hid (k + 1 ≤ s.size - 2 ∧ (gm s.data.toList k).length < s.size + 4) := by unfold Hid; rw [SgMath.gm_len]; omega
      obtain ⟨X, hX⟩ : ∃ X, S m = X := ⟨_, rfl⟩
      rw [hX] at hcut
      have hXm : Hid (X = S m) := hX.symm
      generalize gm s.data.toList k = L at *
      clear hgs hm hX he hk hsz w3 w4
      go_wp2_with (at_builtin; refine push_t _ rfl _ _ rfl rfl w.heap.size _ L m _ rfl rfl ?_ ?_ ?_ hgl.out ?_; (exact World.ownsRow.alloc hown.out _); (rw [← hXm.out]; exact hp_new _ _); (simp; omega); intro v6 w6 hown6 hb6)
      refine ⟨⟨k + 1, hfin.out.1, congrArg (Value.int .i64) w2, ?_, (HB.alloc HB.size _).trans hb6⟩, ?_⟩
      · unfold Hid
        rw [hgs'.out]
        exact hown6
      · exact grow_t hown.out hown6 hfin.out.2
    · have hke : k = s.size - 2 := by omega
      have HO := sorted_any la (gm s.data.toList k) lc wr (ownS_row hown.out).1 (by rw [SgMath.gm_len]; omega)
      have hke' : Hid (setOf (gm s.data.toList k) = setOf (gm s.data.toList (s.size - 2))) := by unfold Hid; rw [← hke]
      have HO' : Hid (Calls Try.prog 10 #[.slice la (gm s.data.toList k).length lc] wr fun e w' => ∃ v, e = .returned v ∧ OwnS w' wr.heap.size v (setOf (gm s.data.toList k)) ∧ Below wr.heap.size wr w') := HO
      clear HO hke he hk hgl hown w2 w3 w4
      go_wp2_with fail
      refine HO'.out.mono ?_
      rintro e w1 ⟨v, rfl, h1, h2⟩
      go_wp2_with fail
      go_ret
      rw [hke'.out] at h1
      exact ⟨_, rfl, ownS_base h1 hBs, HB.trans (h2.mono hBs)⟩
set_option maxHeartbeats 1000000 in
theorem sameT_any (l : List (List UInt8)) (a a' : Option Addr) (c c' : Nat) (w : World) (hl : l.length ≤ 4194304) (h1 : Row w a l) (h2 : Row w a' l) :
    Calls Try.prog 5 #[.slice a l.length c, .slice a' l.length c'] w fun r w' => r = .returned (.bool true) ∧ Below w.heap.size w w' := by
  have hl' : Hid (l.length ≤ 4194304) := hl
  clear hl
  go_enter Try.func5, Try.ntmps5
  go_wp2_with fail
  go_loopw [5] (fun iv wr => ∃ (k : Nat), k ≤ l.length ∧ iv = .int .i64 (k : Int) ∧ Hid (wr.heap = w.heap) ∧ Below w.heap.size w wr) (fun iv _ => l.length - (intOf iv).toNat)
  case atStart => exact ⟨0, Nat.zero_le _, rfl, rfl, Below.refl _ _⟩
  case round =>
    obtain ⟨k, hk, rfl, hh, HB⟩ := hrel
    have hsz := hl'.out
    by_cases hlt : k < l.length
    · obtain ⟨b, o, rfl, a0⟩ := h1 k hlt
      obtain ⟨b', o', rfl, b0⟩ := h2 k hlt
      have hE : ∀ a, wr.cell? a = w.cell? a := fun a => World.cell?_of_block (w := w) (by rw [hh.out])
      rw [← hE] at a0 b0
      have k0 : (0 : Int) ≤ (k : Int) := Int.natCast_nonneg _
      have k1 : (k : Int) < (l.length : Int) := Int.ofNat_lt.2 hlt
      generalize S l[k] = x at *
      clear hE h1 h2
      go_wp2_with fail
      go_quiet (fail)
      go_wp2_with fail
      go_roundw
      case rel => exact ⟨k + 1, hlt, by simp, by exact hh, HB.trans (below_drewN _ _ _)⟩
      case measure => simp [intOf]; omega
    · have hke : k = l.length := by omega
      subst hke
      clear h1 h2
      go_wp2_with fail
      go_ret
      exact ⟨rfl, HB⟩
set_option maxHeartbeats 2000000 in
theorem whole_any (v more : Value) (mm : ByteArray) (m : List UInt8) (n : Nat) (w : World) (hM : Mks w v more m n) (hmm : mm = S m) (hn : n ≤ 4194304) :
    Calls Try.prog 8 #[.agg #[v, more, .string mm]] w fun r w' => r = .returned (.bool true) ∧ Below w.heap.size w w' := by
  obtain ⟨⟨a, c, rfl, r⟩, ⟨a', c', rfl, r'⟩⟩ := hM
  have hR : Hid ((∀ i, i < n → ∃ b off, a = some ⟨b, off, none⟩ ∧ w.cell? ⟨b, off + i, none⟩ = some (.string mm)) ∧ (∀ i, i < n + 1 → ∃ b off, a' = some ⟨b, off, none⟩ ∧ w.cell? ⟨b, off + i, none⟩ = some (.string mm)) ∧ n ≤ 4194304) := by
    refine ⟨fun i hi => ?_, fun i hi => ?_, hn⟩
    · obtain ⟨b, off, e, h⟩ := r i (by rw [List.length_replicate]; exact hi)
      rw [List.getElem_replicate, ← hmm] at h
      exact ⟨b, off, e, h⟩
    · obtain ⟨b, off, e, h⟩ := r' i (by rw [List.length_replicate]; exact hi)
      rw [List.getElem_replicate, ← hmm] at h
      exact ⟨b, off, e, h⟩
  obtain ⟨W0, hW0⟩ : ∃ W0, w.alloc (.cells #[.slice a n c, .slice a' (n + 1) c', .string mm] 27) = W0 := ⟨_, rfl⟩
  have hX0 : Hid (Box W0 w.heap.size 27 #[.slice a n c, .slice a' (n + 1) c', .string mm] ∧ Below w.heap.size w W0) := by
    unfold Hid
    rw [← hW0]
    exact ⟨Box.new _ _ _, (Below.refl _ _).alloc (Nat.le_refl _) _⟩
  clear r r' hmm hn
  go_enter Try.func8, Try.ntmps8
  go_wp2_with fail
  try rw [hW0]
  go_loopw [3] (fun iv wr => ∃ k q : Nat, k ≤ n + 1 ∧ iv = .int .i64 (k : Int) ∧ Hid (wr = W0.drewN q)) (fun iv _ => n + 1 - (intOf iv).toNat)
  case atStart => exact ⟨0, 0, Nat.zero_le _, rfl, rfl⟩
  case round =>
    obtain ⟨k, q, hk, rfl, hw⟩ := hrel
    have hBx : Box wr w.heap.size 27 #[.slice a n c, .slice a' (n + 1) c', .string mm] := by rw [hw.out]; exact hX0.out.1
    obtain ⟨x0, _⟩ := at_of hBx (j := 0) (v := .slice a n c) rfl
    obtain ⟨x1, _⟩ := at_of hBx (j := 1) (v := .slice a' (n + 1) c') rfl
    obtain ⟨x2, _⟩ := at_of hBx (j := 2) (v := .string mm) rfl
    have hBw : Below w.heap.size w wr := by rw [hw.out]; exact hX0.out.2.trans (below_drewN _ _ _)
    have hn := hR.out.2.2
    clear hBx hW0
    by_cases hlt : k < n + 1
    · obtain ⟨b', o', rfl, b0⟩ := hR.out.2.1 k hlt
      rw [← hBw.cell (World.block_lt_of_cell? w _ b0)] at b0
      have k0 : (0 : Int) ≤ (k : Int) := Int.natCast_nonneg _
      have k1 : (k : Int) < ((n + 1 : Nat) : Int) := Int.ofNat_lt.2 hlt
      have k2 : (k : Int) < (n : Int) + 1 := by omega
      have hlt' : Hid (k < n + 1) := hlt
      by_cases hl2 : k < n
      · obtain ⟨b, o, rfl, a0⟩ := hR.out.1 k hl2
        rw [← hBw.cell (World.block_lt_of_cell? w _ a0)] at a0
        have k3 : (k : Int) < (n : Int) := Int.ofNat_lt.2 hl2
        clear hlt hX0
        go_wp2_with fail
        go_quiet (fail)
        go_wp2_with fail
        go_roundw
        case rel => exact ⟨k + 1, _, hlt'.out, by simp, by unfold Hid; rw [hw.out, World.drewN_drewN]⟩
        case measure => have := hlt'.out; simp [intOf]; omega
      · have k3 : ¬ (k : Int) < (n : Int) := by omega
        clear hlt hX0
        go_wp2_with fail
        go_quiet (fail)
        go_wp2_with fail
        go_roundw
        case rel => exact ⟨k + 1, _, hlt'.out, by simp, by unfold Hid; rw [hw.out, World.drewN_drewN]⟩
        case measure => have := hlt'.out; simp [intOf]; omega
    · have hke : k = n + 1 := by omega
      subst hke
      have hw1 : wrap64 ((n : Int) + 1) = ((n + 1 : Nat) : Int) := (ws3 n hn).2.1
      clear hX0
      go_wp2_with fail
      go_ret
      exact ⟨by simp, hBw⟩
end Go.Proofs.Ytdjfjoidmnciiaa
