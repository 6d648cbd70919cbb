import Derived.Test.YthaonpmmfennhaaWsB
import Derived.Deep.RegionHeld3
import Derived.Deep.RegionHeldLaw
import Derived.BigQuiet
namespace Go.Proofs.Ythaonpmmfennhaa
open Go.RowKit
open BerMath (lo enc sz be)
set_option linter.unusedVariables false

theorem S_app2 (a b : List UInt8) : S a ++ S b = S (a ++ b) := by
  apply S_eq
  rw [app_l, S_l, S_l]

set_option maxRecDepth 100000 in
set_option maxHeartbeats 2000000 in
theorem element_any (f : UInt8) (s : ByteArray) (w : World) (h : s.size ≤ 16777216) :
    Calls Try.prog 15 #[.int .u8 (f.toNat : Int), .string s] w fun e w' => e = .returned (.string (S (elB f s.data.toList))) ∧ Below w.heap.size w w' := by
  have HL : ∀ W, Hid (Calls Try.prog 32 #[.int .i64 (s.size : Int)] W fun e w' => e = .returned (.string (S (lenB s.size))) ∧ Below W.heap.size W w') := fun W => lengthBytes_any s.size W (by omega)
  have hC : ∀ (W : World), Hid ((convert 32 9 (.slice (some ⟨W.heap.size, 0, none⟩) 1 1)).run Try.prog (W.alloc (.cells #[.int .u8 (f.toNat : Int)] 5)) = .ok (.string (S [f])) (W.alloc (.cells #[.int .u8 (f.toNat : Int)] 5))) := fun W => own_conv (own_new1 W W.heap.size f _ (Nat.le_refl _) rfl)
  have hsz : Hid ((S [f]).size = 1 ∧ (S (lenB s.size)).size ≤ 5 ∧ (S [f] ++ S (lenB s.size)).size ≤ 6) := by
    unfold Hid
    have := lenB_len s.size
    have := ll_le s.size
    rw [S_app2, S_size, S_size, S_size, List.length_append]
    simp
    omega
  have hfin : Hid (S [f] ++ S (lenB s.size) ++ s = S (elB f s.data.toList)) := by
    unfold Hid elB
    rw [S_app2, ← S_of s, S_app2, S_l, size_l]
    simp [S_size]
  go_enter Try.func15, Try.ntmps15
  go_wp2_with fail
  have hC0 : (convert 32 9 (.slice (some ⟨w.heap.size, 0, none⟩) 1 1)).run Try.prog (w.alloc (.cells #[.int .u8 (f.toNat : Int)] 5)).drew = .ok (.string (S [f])) (w.alloc (.cells #[.int .u8 (f.toNat : Int)] 5)).drew := own_conv (fown_below (own_new1 w w.heap.size f _ (Nat.le_refl _) rfl) (fun g _ => rfl))
  have hC1 : ∀ W : World, (convert 32 9 (.slice (some ⟨W.heap.size, 0, none⟩) 1 1)).run Try.prog (W.alloc (.cells #[.int .u8 (f.toNat : Int)] 5)) = .ok (.string (S [f])) (W.alloc (.cells #[.int .u8 (f.toNat : Int)] 5)) := fun W => (hC W).out
  have n1 : ¬ (S [f]).size + (S (lenB s.size)).size > 9223372036854775807 := by have := hsz.out; omega
  have n2 : ¬ (S [f] ++ S (lenB s.size)).size + s.size > 9223372036854775807 := by have := hsz.out; omega
  have n3 : ¬ (S [f]).size + (S (lenB s.size)).size + s.size > 9223372036854775807 := by have := hsz.out; omega
  have hX2 : ∀ g : Nat, ∀ w1 : World, Below (w.alloc (.cells #[.int .u8 (f.toNat : Int)] 5)).drew.heap.size (w.alloc (.cells #[.int .u8 (f.toNat : Int)] 5)).drew w1 → (convert 32 9 (.slice (some ⟨w.heap.size, 0, none⟩) 1 1)).run Try.prog w1 = .ok (.string (S [f])) w1 := fun _ w1 hb1 => own_conv (fown_below (own_new1 w w.heap.size f _ (Nat.le_refl _) rfl) (fun g hg => by injection hg with hg; subst hg; exact hb1.block _ (by simp)))
  generalize S [f] = X at *
  generalize S (lenB s.size) = Y at *
  clear hC hsz
  go_region_with (go_at_call 32; refine (HL _).out.mono ?_; rintro e w1 ⟨rfl, hb1⟩; try (have hc3 := hX2 0 w1 hb1))
  all_goals
    go_wp2_with fail
    go_ret
    first
      | exact ⟨by rw [← hfin.out]; rfl, (((Below.refl w.heap.size w).alloc (Nat.le_refl _) _).drew).trans (hb1.mono (by simp))⟩
      | exact ⟨by rw [← hfin.out]; rfl, ((Below.refl w.heap.size w).drew.trans hb1).alloc (hb1.size) _⟩

set_option maxRecDepth 100000 in
set_option maxHeartbeats 2000000 in
theorem number_any (f : UInt8) (n : Nat) (w : World) (h : n < 8388608) :
    Calls Try.prog 16 #[.int .u8 (f.toNat : Int), .int .i64 (n : Int)] w fun e w' => e = .returned (.string (S (elB f (enc (n : Int))))) ∧ Below w.heap.size w w' := by
  have hfin := enc_mb n h
  have hml := mb_len n
  have h4 : n < 4294967296 := by omega
  have HE : ∀ (t : List UInt8) (W : World), t.length ≤ 5 → Hid (Calls Try.prog 15 #[.int .u8 (f.toNat : Int), .string (S t)] W fun e w' => e = .returned (.string (S (elB f t))) ∧ Below W.heap.size W w') := fun t W ht => by
    have := element_any f (S t) W (by rw [S_size]; omega)
    rw [S_l] at this
    exact this
  clear h
  go_enter Try.func16, Try.ntmps16
  go_wp2_with fail
  go_loopw [5, 6] (fun lv kv wr => ∃ (k : Nat) (l : List UInt8), kv = .int .i64 (k : Int) ∧ k < 4294967296 ∧ Hid (FOwn wr w.heap.size lv l) ∧ Hid (mb n = mb k ++ l) ∧ Below w.heap.size w wr) (fun lv _ _ => 5 - lenV lv)
  case atStart => exact ⟨n, [], rfl, h4, own_nil0 _ _, by unfold Hid; rw [List.append_nil], Below.refl _ _⟩
  case round =>
    obtain ⟨k, l, rfl, hk, hown, hmb, HB⟩ := hrel
    obtain ⟨la, ln, lc, rfl⟩ := own_slice hown.out
    have hBs : w.heap.size ≤ wr.heap.size := HB.size
    have hll : Hid (l.length ≤ 4) := ws_suffix hmb.out hml
    by_cases hk0 : 0 < k
    · have hstep := mb_step k hk0 hk
      obtain ⟨m, q, c, r1, r2, r3, r4, r5, r6, r7, r8, r9⟩ := ws_div k hk0 hk
      rw [r6, r7] at hstep
      have hmb' : Hid (mb n = mb q ++ ([c] ++ l)) := by unfold Hid; rw [hmb.out, hstep, List.append_assoc]
      have k1 : (0 : Int) < (k : Int) := ws_pos k hk0
      have hl3 : Hid (l.length ≤ 3) := ws_three hmb.out hml hk0
      have hkq : Hid (q < 4294967296 ∧ q < k) := ⟨r8, r9⟩
      clear hstep hmb hk h4 hfin hml r6 r7 r8 r9 HE
      go_wp2_with (at_builtin; refine push_row _ rfl _ _ rfl w.heap.size w.heap.size _ _ [c] l rfl rfl ?_ ?_ ?_ ?_ ?_; (exact own_new1 wr w.heap.size c _ hBs rfl); (exact World.ownsRow.alloc hown.out _); (exact Nat.le_trans hBs (by rw [World.size_alloc]; exact Nat.le_succ _)); (exact ws_five _ hll.out _); intro v6 w6 hown6 hb6)
      refine ⟨⟨q, [c] ++ l, congrArg (Value.int .i64) r4, hkq.out.1, hown6, hmb', (HB.alloc HB.size _).trans hb6⟩, ?_⟩
      exact ws_grow hown.out hown6 hl3.out
    · have hk1 : k = 0 := ws_zero k hk0
      subst hk1
      have hl : mb n = l := hmb.out
      unfold padB at hfin
      rw [hl] at hfin hml
      obtain ⟨hsz, hsc⟩ := own_size hown.out
      subst hsz
      clear hmb hl hk hk0 h4
      have hB1 : ∀ X, w.heap.size ≤ (wr.alloc X).heap.size := fun X => Nat.le_trans hBs (by rw [World.size_alloc]; exact Nat.le_succ _)
      cases l with
      | nil =>
        have hfin' : Hid (enc (n : Int) = [0] ++ []) := hfin
        clear hfin
        go_wp2_with (first
          | (at_builtin; refine push_row _ rfl _ _ rfl w.heap.size w.heap.size _ _ [0] [] rfl rfl ?_ ?_ ?_ ?_ ?_; (exact own_new1 wr w.heap.size 0 _ hBs rfl); (exact World.ownsRow.alloc hown.out _); (exact hB1 _); (exact ws_five 0 (by decide) _); intro v6 w6 hown6 hb6; have hc6 := own_conv hown6; rw [← hfin'.out] at hc6)
          | (go_at_call 15; refine (HE _ _ (by rw [hfin'.out]; decide)).out.mono ?_; rintro e w7 ⟨rfl, hb7⟩))
        go_ret
        exact ⟨rfl, ((HB.alloc HB.size _).trans hb6).trans (hb7.mono ((HB.alloc HB.size _).trans hb6).size)⟩
      | cons c l =>
        obtain ⟨g, cap, hg, hcell⟩ : ∃ g cap, (Value.slice la (c :: l).length lc = .slice (some ⟨g, 0, none⟩) (c :: l).length cap) ∧ wr.cell? ⟨g, 0, none⟩ = some (.int .u8 (c.toNat : Int)) := by
          rcases hown.out.2 with ⟨hq, hn⟩ | ⟨g, cap, cur, hq, _⟩
          · simp at hn
          · refine ⟨g, cap, hq, ?_⟩
            have h1 := hown.out
            rw [hq] at h1
            exact World.ownsRow.cells (show wr.ownsRow w.heap.size 5 1 (.slice (some ⟨g, 0, none⟩) (c :: l).length cap) (c :: l).length (bv (c :: l)) from h1) rfl 0 _ rfl
        injection hg with hg1 _ hg2
        subst hg1 hg2
        have e1 : (((c :: l).length : Int) == 0) = false := by rw [beq_eq_false_iff_ne]; exact Int.ofNat_ne_zero.2 (Nat.succ_ne_zero _)
        have e2 : (0 : Int) < ((c :: l).length : Int) := Int.ofNat_lt.2 (Nat.succ_pos _)
        by_cases hc : 128 ≤ c.toNat
        · have d1 : decide ((128 : Int) ≤ (c.toNat : Int)) = true := decide_eq_true (by omega)
          have hfin' : Hid (enc (n : Int) = [0] ++ (c :: l)) := by unfold Hid; rw [hfin, if_pos (by simp [hc])]; rfl
          have h5 : Hid ((enc (n : Int)).length ≤ 5) := by unfold Hid; rw [hfin'.out]; simp at hml ⊢; omega
          have hml' : Hid ((c :: l).length ≤ 4) := hml
          clear hfin hc hml
          generalize c :: l = L at *
          go_wp2_with (first
            | (at_builtin; refine push_row _ rfl _ _ rfl w.heap.size w.heap.size _ _ [0] L rfl rfl ?_ ?_ ?_ ?_ ?_; (exact own_new1 wr w.heap.size 0 _ hBs rfl); (exact World.ownsRow.alloc hown.out _); (exact hB1 _); (exact ws_five _ hml'.out _); intro v6 w6 hown6 hb6; have hc6 := own_conv hown6; rw [← hfin'.out] at hc6)
            | (go_at_call 15; refine (HE _ _ h5.out).out.mono ?_; rintro e w7 ⟨rfl, hb7⟩))
          go_ret
          exact ⟨rfl, ((HB.alloc HB.size _).trans hb6).trans (hb7.mono ((HB.alloc HB.size _).trans hb6).size)⟩
        · have d1 : decide ((128 : Int) ≤ (c.toNat : Int)) = false := decide_eq_false (by omega)
          have hfin' : Hid (enc (n : Int) = c :: l) := by unfold Hid; rw [hfin, if_neg (by simp; omega)]
          have h5 : Hid ((enc (n : Int)).length ≤ 5) := by unfold Hid; rw [hfin'.out]; omega
          have hc6 := own_conv hown.out
          have hc7 : Hid ((convert 32 9 (.slice (some ⟨g, 0, none⟩) (c :: l).length lc)).run Try.prog wr = .ok (.string (S (enc (n : Int)))) wr) := by unfold Hid; rw [hfin'.out]; exact hc6
          clear hfin hc hml hc6
          generalize c :: l = L at *
          have hc6 := hc7.out
          clear hc7
          go_wp2_with (go_at_call 15; refine (HE _ _ h5.out).out.mono ?_; rintro e w7 ⟨rfl, hb7⟩)
          go_ret
          exact ⟨rfl, HB.trans (hb7.mono HB.size)⟩
end Go.Proofs.Ythaonpmmfennhaa
