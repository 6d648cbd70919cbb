import Derived.Test.YtfpphhbpoaobfaaGreatDoorGLrE
import Derived.Test.YtfpphhbpoaobfaaGreatDoorLrJ
namespace Go.Proofs.YtfpphhbpoaobfaaGreatDoor
namespace Lr
open Go.RowKit
open TextMath (b64 fold)
set_option linter.unusedVariables false
set_option maxRecDepth 100000

theorem pf_first (i : Nat) (d : List UInt8) (x y z0 z1 : Bool) (hx : dacc (drun 0 (fold d)) = x) (hy : (fold d == dnB) = y) (h0 : (fold d == chB) = z0) (h1 : (fold d == coB) = z1) :
    (pf (true && decide (i = 0)) d ≠ 0 ∧ (x = false ∨ (x = true ∧ y = true) ∨ (x = true ∧ y = false ∧ i = 0 ∧ z0 = true) ∨ (x = true ∧ y = false ∧ i = 0 ∧ z0 = false ∧ z1 = true))) ∨
    (pf (true && decide (i = 0)) d = 0 ∧ ((x = true ∧ y = false ∧ i ≠ 0) ∨ (x = true ∧ y = false ∧ i = 0 ∧ z0 = false ∧ z1 = false))) := by
  unfold pf chg okD
  rw [hx, hy, h0, h1]
  by_cases hi : i = 0
  · simp only [hi, decide_true]
    cases x <;> cases y <;> cases z0 <;> cases z1 <;> simp
  · simp only [hi, decide_false]
    cases x <;> cases y <;> simp [hi]
set_option maxHeartbeats 4000000 in
theorem can_any (ln : Int) (nm : List UInt8) (pa : Option Addr) (pc : Nat) (ps : List PR) (n : Nat) (hn : ps.length = n) (w : World) (hr : PRow w pa ps) (hz : wRc (nm, ps) ≤ 1048576) :
    Calls Tryz.prog 19 #[.agg #[.int .i64 ln, .string (S nm), .slice pa n pc]] w fun e w' => e = .returned (.bool (decide (rf (nm, ps) = 0))) ∧ Below w.heap.size w w' := by
  have hpl := wp_len (nm, ps)
  have hws : Hid (∀ i (hi : i < ps.length), ps[i].1.length ≤ 1048576) := fun i hi => by
    have := wp_le (nm, ps) ps[i] (List.getElem_mem hi)
    unfold wp at this
    omega
  have nb : (n : Int) ≤ 1048576 := by simp only at hpl; omega
  have hr' : Hid (PRow w pa ps) := hr
  have hn' : Hid (ps.length = n) := hn
  obtain ⟨N, hN⟩ : ∃ N, S nm = N := ⟨_, rfl⟩
  rw [hN]
  obtain ⟨Wb, hWb⟩ : ∃ Wb, w.alloc (.cells #[.int .i64 ln, .string N, .slice pa n pc] 36) = Wb := ⟨_, rfl⟩
  have hBb : Hid (Below w.heap.size w Wb) := by unfold Hid; rw [← hWb]; exact (Below.refl _ _).alloc (Nat.le_refl _) _
  have hxb : Wb.heap[w.heap.size]? = some (.cells #[.int .i64 ln, .string N, .slice pa n pc] 36 (0, 0)) := by rw [← hWb]; exact heap_alloc_new _ _
  have hcb : Hid (Wb.cell? ⟨w.heap.size, 2, none⟩ = some (.slice pa n pc)) := by unfold Hid; rw [cell_of_row _ _ _ _ _ _ hxb]; rfl
  clear hr hz hpl hN hn hxb
  go_enter Tryz.func19, Tryz.ntmps19
  go_wp2_with fail
  go_loopw [3] (fun iv wr => ∃ i : Nat, i ≤ n ∧ iv = .int .i64 (i : Int) ∧ Hid (∀ j (h : j < ps.length), j < i → pf (true && decide (j = 0)) ps[j].1 = 0) ∧ Hid (Below Wb.heap.size Wb wr)) (fun iv _ => n - (intOf iv).toNat)
  case atStart => exact ⟨0, Nat.zero_le _, rfl, fun j _ h => by omega, Below.refl _ _⟩
  case round =>
    obtain ⟨i, hi, rfl, hall, hB⟩ := hrel
    have i0 : (0 : Int) ≤ (i : Int) := Int.natCast_nonneg _
    by_cases hlt : i < n
    · have i1 : (i : Int) < (n : Int) := Int.ofNat_lt.2 hlt
      have hiP : i < ps.length := by rw [hn'.out]; exact hlt
      obtain ⟨pb, po, rfl, c1, c2⟩ := prow_at hr'.out i hiP
      clear c2
      obtain ⟨d, hd⟩ : ∃ d, S ps[i].1 = d := ⟨_, rfl⟩
      have hdl : d.data.toList = ps[i].1 := by rw [← hd, S_l]
      have hds : d.size ≤ 1048576 := by rw [← hd, S_size]; exact hws.out i hiP
      rw [hd] at c1
      have hcl : Hid (∀ W, Below Wb.heap.size Wb W → W.cell? ⟨w.heap.size, 2, none⟩ = some (.slice (some ⟨pb, po, none⟩) n pc) ∧ W.cell? ⟨pb, po + i * 2, none⟩ = some (.string d)) := fun W hW => by
        have hb := hBb.out.trans (hW.mono hBb.out.size)
        refine ⟨?_, ?_⟩
        · rw [hW.cell (World.block_lt_of_cell? _ _ hcb.out)]; exact hcb.out
        · rw [hb.cell (World.block_lt_of_cell? _ _ c1)]; exact c1
      obtain ⟨x, hx⟩ : ∃ x, dacc (drun 0 (fold ps[i].1)) = x := ⟨_, rfl⟩
      obtain ⟨y, hy⟩ : ∃ y, (fold ps[i].1 == dnB) = y := ⟨_, rfl⟩
      obtain ⟨z0, hz0⟩ : ∃ z, (fold ps[i].1 == chB) = z := ⟨_, rfl⟩
      obtain ⟨z1, hz1⟩ : ∃ z, (fold ps[i].1 == coB) = z := ⟨_, rfl⟩
      obtain ⟨f, hf⟩ : ∃ f, S (fold ps[i].1) = f := ⟨_, rfl⟩
      have hfl : f.data.toList = fold ps[i].1 := by rw [← hf, S_l]
      have hP : Hid (∀ W, Calls Tryz.prog 31 #[.string d] W fun e w' => (∃ t a n c q, e = .returned (.tuple #[.agg #[.string t, .slice a n c], .int .i64 (if x = true then 0 else 40), .int .i64 q])) ∧ Below W.heap.size W w') := fun W => by
        have := parseE_any d W (by omega)
        rw [hdl, hx] at this
        exact this
      have hF : Hid (∀ W, Calls Tryz.prog 32 #[.string d] W fun e w' => e = .returned (.string f) ∧ Below W.heap.size W w') := fun W => by
        have := fold_any d W (by unfold maxLen; omega)
        rw [hdl, hf] at this
        exact this
      have f0 : (f.toList == [100, 110]) = y := by rw [Lib.toList_data, hfl]; exact hy
      have f1 : (f.toList == [99, 104, 97, 110, 103, 101, 116, 121, 112, 101]) = z0 := by rw [Lib.toList_data, hfl]; exact hz0
      have f2 : (f.toList == [99, 111, 110, 116, 114, 111, 108]) = z1 := by rw [Lib.toList_data, hfl]; exact hz1
      have hpf := pf_first i ps[i].1 x y z0 z1 hx hy hz0 hz1
      have hlt' : Hid (i < n) := hlt
      have hnext : Hid (pf (true && decide (i = 0)) ps[i].1 = 0 → ∀ j (h : j < ps.length), j < i + 1 → pf (true && decide (j = 0)) ps[j].1 = 0) := fun e j h hj => by
        by_cases e2 : j = i
        · subst e2; exact e
        · exact hall.out j h (by omega)
      have hbad : Hid (pf (true && decide (i = 0)) ps[i].1 ≠ 0 → rf (nm, ps) ≠ 0) := fun e => by
        have h1 := pfs_at ps true i hiP (fun j h hj => hall.out j h hj) e
        unfold rf
        rw [if_neg (by intro e0; simp only at e0; rw [e0] at hiP; simp at hiP)]
        simp only
        rw [h1]
        exact e
      have cc := hcl.out wr hB.out
      obtain ⟨cb, cd⟩ := cc
      clear hx hy hz0 hz1 hf hfl hdl hd hall hi hlt c1 hds
      rcases hpf with ⟨hp, hcs⟩ | ⟨hp, hcs⟩
      · have hres : Hid (decide (rf (nm, ps) = 0) = false) := by unfold Hid; rw [decide_eq_false_iff_not]; exact hbad.out hp
        clear hp hnext hbad
        have hcs' : (x = false) ∨ (x = true ∧ y = true) ∨ (x = true ∧ y = false ∧ ((i : Int) == 0) = true ∧ z0 = true) ∨ (x = true ∧ y = false ∧ ((i : Int) == 0) = true ∧ z0 = false ∧ z1 = true) := by
          rcases hcs with h | h | ⟨h1, h2, h3, h4⟩ | ⟨h1, h2, h3, h4⟩
          · exact .inl h
          · exact .inr (.inl h)
          · exact .inr (.inr (.inl ⟨h1, h2, by simp [h3], h4⟩))
          · exact .inr (.inr (.inr ⟨h1, h2, by simp [h3], h4⟩))
        clear hcs
        rcases hcs' with h | ⟨h, h'⟩ | ⟨h, h', h3, h4⟩ | ⟨h, h', h3, h4, h5⟩
        all_goals
          subst h
          try subst h'
          try subst h4
          try subst h5
          go_wp2_with (first
            | (go_at_call 31; refine (hP.out wr).mono ?_; rintro e w2 ⟨⟨t, ta, tn, tc, tq, rfl⟩, hb2⟩; obtain ⟨W3, hW3⟩ : ∃ W3, w2.alloc (.cells #[.string t, .slice ta tn tc] 77) = W3 := ⟨_, rfl⟩; have B3 : Hid (Below Wb.heap.size Wb W3) := (by unfold Hid; rw [← hW3]; exact (hB.out.trans (hb2.mono hB.out.size)).alloc (Nat.le_trans hB.out.size hb2.size) _); obtain ⟨cb3, cd3⟩ := hcl.out W3 B3.out; clear hb2 cb cd)
            | (go_at_call 32; refine (hF.out _).mono ?_; rintro e w4 ⟨rfl, hb4⟩; have B4 : Hid (Below Wb.heap.size Wb w4) := B3.out.trans (hb4.mono B3.out.size); clear hb4)
            | (go_at_call 9; refine (num_any _ _).mono ?_; rintro e w9 ⟨rfl, rfl⟩))
          go_ret
          exact ⟨by rw [hres.out]; rfl, hBb.out.trans (B4.out.mono hBb.out.size)⟩
      · have hnx : Hid (∀ j (h : j < ps.length), j < i + 1 → pf (true && decide (j = 0)) ps[j].1 = 0) := hnext.out hp
        clear hp hnext hbad
        have hcs' : (x = true ∧ y = false ∧ ((i : Int) == 0) = false) ∨ (x = true ∧ y = false ∧ ((i : Int) == 0) = true ∧ z0 = false ∧ z1 = false) := by
          rcases hcs with ⟨h1, h2, h3⟩ | ⟨h1, h2, h3, h4⟩
          · exact .inl ⟨h1, h2, by rw [beq_eq_false_iff_ne]; omega⟩
          · exact .inr ⟨h1, h2, by simp [h3], h4⟩
        clear hcs
        rcases hcs' with ⟨h, h', h3⟩ | ⟨h, h', h3, h4, h5⟩
        all_goals
          subst h
          subst h'
          try subst h4
          try subst h5
          go_wp2_with (first
            | (go_at_call 31; refine (hP.out wr).mono ?_; rintro e w2 ⟨⟨t, ta, tn, tc, tq, rfl⟩, hb2⟩; obtain ⟨W3, hW3⟩ : ∃ W3, w2.alloc (.cells #[.string t, .slice ta tn tc] 77) = W3 := ⟨_, rfl⟩; have B3 : Hid (Below Wb.heap.size Wb W3) := (by unfold Hid; rw [← hW3]; exact (hB.out.trans (hb2.mono hB.out.size)).alloc (Nat.le_trans hB.out.size hb2.size) _); obtain ⟨cb3, cd3⟩ := hcl.out W3 B3.out; clear hb2 cb cd)
            | (go_at_call 32; refine (hF.out _).mono ?_; rintro e w4 ⟨rfl, hb4⟩; have B4 : Hid (Below Wb.heap.size Wb w4) := B3.out.trans (hb4.mono B3.out.size); clear hb4)
            | (go_at_call 9; refine (num_any _ _).mono ?_; rintro e w9 ⟨rfl, rfl⟩))
          go_roundw
          case rel => exact ⟨i + 1, hlt'.out, by simp, hnx, B4⟩
          case measure => have := hlt'.out; simp [intOf]; omega
    · have e : n = i := by omega
      subst e
      have i1 : ¬ (n : Int) < (n : Int) := by omega
      have cb : wr.cell? ⟨w.heap.size, 2, none⟩ = some (.slice pa n pc) := by rw [hB.out.cell (World.block_lt_of_cell? _ _ hcb.out)]; exact hcb.out
      have hres : Hid (decide (0 < n) = decide (rf (nm, ps) = 0)) := by
        unfold Hid rf
        by_cases h0 : ps = []
        · have hn0 : n = 0 := by rw [← hn'.out, h0]; rfl
          rw [if_pos h0, hn0]
          decide
        · have hnp : 0 < n := by rw [← hn'.out]; exact List.length_pos_iff.2 h0
          rw [if_neg h0, pfs_all ps true (fun j h => hall.out j h (by have := hn'.out; omega)), decide_eq_true rfl, decide_eq_true hnp]
      clear hall hi hlt
      go_wp2_with fail
      go_ret
      exact ⟨by rw [← hres.out]; rfl, hBb.out.trans (hB.out.mono hBb.out.size)⟩
end Lr
end Go.Proofs.YtfpphhbpoaobfaaGreatDoor
