import Derived.Test.YtfpphhbpoaobfaaGreatDoorRoM
import Derived.Test.YtfpphhbpoaobfaaGreatDoorGRI
import Derived.BigQuiet
namespace Go.Proofs.YtfpphhbpoaobfaaGreatDoor
namespace Rd
open Go.RowKit Go.Shelf
open LdMath
open Lr (PR RC pf chg okD dnB ChgTab GOwn GRow pV pV_len Kd PX RX rV rV_len append_gen RRow PRow said rrow_at prow_at drewN_below)
set_option linter.unusedVariables false
set_option maxRecDepth 100000

/-- The result lies in a box. -/
theorem results_b {fn : Func} {p : Tmp} (h : fn.results = #[.cell p 4]) (tmps : Array Value) (w : World) (g : Nat) (v : Value) (hp : tmps.getD p undef = .pointer (some ⟨g, 0, none⟩)) (hc : w.cell? ⟨g, 0, none⟩ = some v) : (results fn tmps).run Tryz.prog w = .ok v w := by
  have hA : (isAgg 4).run Tryz.prog w = .ok false w := by
    unfold isAgg
    simp only [Sem.run_bind, run_underlying Tryz.underlying4, Result.andThen_ok]
    rfl
  have h1 : (loadVar 4 ⟨g, 0, none⟩).run Tryz.prog w = .ok v w := by simp [loadVar, hA, go_sem, hc]
  have hp' : tmps[p]?.getD undef = .pointer (some ⟨g, 0, none⟩) := by simpa using hp
  simp [results, h, hp', asAddr, h1]
/-- The result's box, written at the end. -/
def Rb (w W : World) : Prop := W.heap[w.heap.size]? = some (.cells #[.bool false] 4 (0, 0)) ∧ Below w.heap.size w W
theorem Rb.below {w W W' : World} (h : Rb w W) (hb : Below W.heap.size W W') : Rb w W' := ⟨(hb.block _ (Array.getElem?_eq_some_iff.1 h.1).1).trans h.1, h.2.trans (hb.mono h.2.size)⟩
theorem Rb.new (w : World) : Rb w (w.alloc (.cells #[.bool false] 4)) := ⟨heap_alloc_last w _, (Below.refl _ _).alloc (Nat.le_refl _) _⟩
theorem Rb.cell {w W : World} (h : Rb w W) : W.cell? ⟨w.heap.size, 0, none⟩ = some (.bool false) ∧ W.frozen? ⟨w.heap.size, 0, none⟩ = false := ⟨row1 h.1, Go.frozen_of_row _ _ _ _ _ h.1⟩
theorem Rb.done {w W : World} (h : Rb w W) (b : Bool) : (W.setCell ⟨w.heap.size, 0, none⟩ (.bool b)).cell? ⟨w.heap.size, 0, none⟩ = some (.bool b) ∧ Below w.heap.size w (W.setCell ⟨w.heap.size, 0, none⟩ (.bool b)) := ⟨row1 (Go.heap_setCell_same W w.heap.size 0 _ _ (.bool b) h.1), h.2.setCell (p := ⟨w.heap.size, 0, none⟩) (Nat.le_refl _) _⟩
set_option maxHeartbeats 4000000 in
/-- A fault of the lines. -/
theorem go_none (s mo t : ByteArray) (T1 : ByteArray) (hT1 : s ++ ({ data := #[10, 10] } : ByteArray) = T1) (ht : T1 ++ mo = t) (y1 : ¬ 9223372036854775807 < s.size + 2) (y2 : ¬ 9223372036854775807 < T1.size + mo.size) (n0 n1 : Nat) (x0 x1 v0 v1 : Int) (hU : ∀ W, Calls Tryz.prog 8 #[.string s] W fun e w' => ∃ a c, e = .returned (.tuple #[.slice a n1 c, .int .i64 x1, .int .i64 v1]) ∧ Below W.heap.size W w') (hV : ∀ W, Calls Tryz.prog 8 #[.string t] W fun e w' => ∃ a c, e = .returned (.tuple #[.slice a n0 c, .int .i64 x0, .int .i64 v0]) ∧ Below W.heap.size W w') (hx : (x0 != 0) = true ∨ ((x0 != 0) = false ∧ (x1 != 0) = true)) (w : World) (hWt : WTab w) (hCt : ChgTab w) :
    Calls Tryz.prog 3 #[.string s, .string mo] w fun e w' => e = .returned (.bool true) ∧ Below w.heap.size w w' := by
  obtain ⟨Wa, hWa⟩ : ∃ Wa, w.alloc (.cells #[.bool false] 4) = Wa := ⟨_, rfl⟩
  have Ra : Hid (Rb w Wa) := by unfold Hid; rw [← hWa]; exact Rb.new w
  have hF : Hid (Calls Tryz.prog 7 #[] Wa fun e w' => e = .returned (.bool true) ∧ Below Wa.heap.size Wa w') := fixed_any Wa (hWt.below Ra.out.2) (hCt.below Ra.out.2)
  have hU' : Hid (∀ W, Calls Tryz.prog 8 #[.string s] W fun e w' => ∃ a c, e = .returned (.tuple #[.slice a n1 c, .int .i64 x1, .int .i64 v1]) ∧ Below W.heap.size W w') := hU
  have hV' : Hid (∀ W, Calls Tryz.prog 8 #[.string t] W fun e w' => ∃ a c, e = .returned (.tuple #[.slice a n0 c, .int .i64 x0, .int .i64 v0]) ∧ Below W.heap.size W w') := hV
  clear hU hV hWt hCt
  rcases hx with hx | ⟨hx, hx'⟩
  all_goals
    go_enter Tryz.func3, Tryz.ntmps3
    go_upto_region 7 with (first
      | (refine (Hid.out R2 |> fun _ => ?_); go_at_call 8; refine (hV'.out _).mono ?_; rintro e w3 ⟨a3, c3, rfl, hb3⟩; have R3 : Hid (Rb w w3) := R2.out.below hb3; clear hb3)
      | (go_at_call 8; refine (hU'.out _).mono ?_; rintro e w2 ⟨a2, c2, rfl, hb2⟩; have R2 : Hid (Rb w w2) := R1.out.below hb2; clear hb2)
      | (go_at_call 7; refine hF.out.mono ?_; rintro e w1 ⟨rfl, hb1⟩; have R1 : Hid (Rb w w1) := Ra.out.below hb1; clear hb1 hF))
    obtain ⟨c0, f0⟩ := R3.out.cell
    obtain ⟨d0, d1⟩ := R3.out.done true
    have d0' : Hid _ := d0
    have d1' : Hid _ := d1
    clear d0 d1 hU' hV' R1 R2 hWa Ra
    go_wp2_with (go_at_call 9; refine (num_any _ _).mono ?_; rintro e w9 ⟨rfl, rfl⟩)
    exact bodyPost_ret (results_b rfl _ _ _ _ rfl d0'.out) rfl ⟨rfl, d1'.out⟩
set_option maxHeartbeats 8000000 in
/-- A text that is refused. -/
theorem go_bad (s mo t : ByteArray) (hs : s.size ≤ 1048576) (T1 : ByteArray) (hT1 : s ++ ({ data := #[10, 10] } : ByteArray) = T1) (ht : T1 ++ mo = t) (y1 : ¬ 9223372036854775807 < s.size + 2) (y2 : ¬ 9223372036854775807 < T1.size + mo.size) (n0 n1 : Nat) (v0 v1 : Int) (hU : ∀ W, Calls Tryz.prog 8 #[.string s] W fun e w' => ∃ a c, e = .returned (.tuple #[.slice a n1 c, .int .i64 0, .int .i64 v1]) ∧ Below W.heap.size W w') (hV : ∀ W, Calls Tryz.prog 8 #[.string t] W fun e w' => ∃ a c, e = .returned (.tuple #[.slice a n0 c, .int .i64 0, .int .i64 v0]) ∧ Below W.heap.size W w')
    (w : World) (er at0 E : Nat) (hE : E = (phys s.data.toList).length + 1) (hLs : ∀ W, Below w.heap.size w W → Calls Tryz.prog 10 #[.string s] W fun e w' => ∃ a nl c, e = .returned (.tuple #[.slice a nl c, .int .i64 (er : Int), .int .i64 (at0 : Int)]) ∧ Below W.heap.size W w') (her : ((er : Int) != 0) = true)
    (hcs : at0 = E ∨ (at0 ≠ E ∧ ∀ W, Below w.heap.size w W → Calls Tryz.prog 10 #[.string t] W fun e w' => ∃ a nl c, e = .returned (.tuple #[.slice a nl c, .int .i64 (er : Int), .int .i64 (at0 : Int)]) ∧ Below W.heap.size W w')) (hWt : WTab w) (hCt : ChgTab w) :
    Calls Tryz.prog 3 #[.string s, .string mo] w fun e w' => e = .returned (.bool true) ∧ Below w.heap.size w w' := by
  obtain ⟨Wa, hWa⟩ : ∃ Wa, w.alloc (.cells #[.bool false] 4) = Wa := ⟨_, rfl⟩
  have Ra : Hid (Rb w Wa) := by unfold Hid; rw [← hWa]; exact Rb.new w
  have hF : Hid (Calls Tryz.prog 7 #[] Wa fun e w' => e = .returned (.bool true) ∧ Below Wa.heap.size Wa w') := fixed_any Wa (hWt.below Ra.out.2) (hCt.below Ra.out.2)
  have hU' : Hid (∀ W, Calls Tryz.prog 8 #[.string s] W fun e w' => ∃ a c, e = .returned (.tuple #[.slice a n1 c, .int .i64 0, .int .i64 v1]) ∧ Below W.heap.size W w') := hU
  have hV' : Hid (∀ W, Calls Tryz.prog 8 #[.string t] W fun e w' => ∃ a c, e = .returned (.tuple #[.slice a n0 c, .int .i64 0, .int .i64 v0]) ∧ Below W.heap.size W w') := hV
  have hL' : Hid (∀ W, Below w.heap.size w W → Calls Tryz.prog 10 #[.string s] W fun e w' => ∃ a nl c, e = .returned (.tuple #[.slice a nl c, .int .i64 (er : Int), .int .i64 (at0 : Int)]) ∧ Below W.heap.size W w') := hLs
  have hcs' : Hid (at0 = E ∨ (at0 ≠ E ∧ ∀ W, Below w.heap.size w W → Calls Tryz.prog 10 #[.string t] W fun e w' => ∃ a nl c, e = .returned (.tuple #[.slice a nl c, .int .i64 (er : Int), .int .i64 (at0 : Int)]) ∧ Below W.heap.size W w')) := hcs
  have hE' : Hid (E = 1 + cE s.data.toList ∧ E ≤ 1048578) := by
    refine ⟨by rw [hE, phys_cE]; omega, ?_⟩
    have := phys_len s.data.toList
    rw [size_l] at this
    omega
  have sz : (s.size : Int) ≤ 1048576 := by omega
  clear hU hV hLs hcs hWt hCt hE
  go_enter Tryz.func3, Tryz.ntmps3
  go_wp2_with (first
    | (refine (Hid.out R3 |> fun _ => ?_); go_at_call 9; refine (num_any _ _).mono ?_; rintro e w9 ⟨rfl, rfl⟩)
    | (refine (Hid.out R3 |> fun _ => ?_); go_at_call 10; refine (hL'.out _ R3.out.2).mono ?_; rintro e w4 ⟨a4, n4, c4, rfl, hb4⟩; obtain ⟨W5, hW5⟩ : ∃ W5, w4.alloc (.cells #[.slice a4 n4 c4] 28) = W5 := ⟨_, rfl⟩; have R5 : Hid (Rb w W5) := (by unfold Hid; rw [← hW5]; exact (R3.out.below hb4).below ((Below.refl _ _).alloc (Nat.le_refl _) _)); clear hb4)
    | (refine (Hid.out R2 |> fun _ => ?_); go_at_call 8; refine (hV'.out _).mono ?_; rintro e w3 ⟨a3, c3, rfl, hb3⟩; have R3 : Hid (Rb w w3) := R2.out.below hb3; clear hb3)
    | (go_at_call 8; refine (hU'.out _).mono ?_; rintro e w2 ⟨a2, c2, rfl, hb2⟩; have R2 : Hid (Rb w w2) := R1.out.below hb2; clear hb2)
    | (go_at_call 7; refine hF.out.mono ?_; rintro e w1 ⟨rfl, hb1⟩; have R1 : Hid (Rb w w1) := Ra.out.below hb1; clear hb1 hF))
  clear hW5 R1 R2 R3 Ra hWa hL' hU' hV'
  go_loopw [16, 17] (fun ev iv wr => ∃ i e : Nat, i ≤ s.size ∧ iv = .int .i64 (i : Int) ∧ ev = .int .i64 (e : Int) ∧ Hid (e + cE (s.data.toList.drop i) = E) ∧ W5 = wr) (fun _ iv _ => s.size - (intOf iv).toNat)
  case atStart => exact ⟨0, 1, Nat.zero_le _, rfl, rfl, by unfold Hid; rw [List.drop_zero]; exact hE'.out.1.symm, rfl⟩
  case round =>
    obtain ⟨i, e, hi, rfl, rfl, hq, rfl⟩ := hrel
    have i0 : (0 : Int) ≤ (i : Int) := Int.natCast_nonneg _
    have e0 : (0 : Int) ≤ (e : Int) := Int.natCast_nonneg _
    have e1 : (e : Int) ≤ 1048578 := by have := hE'.out.2; have := hq.out; omega
    by_cases hlt : i < s.size
    · obtain ⟨z, hz⟩ : ∃ z : Int, (s[i].toNat : Int) = z := ⟨_, rfl⟩
      have k1 : (i : Int) < (s.size : Int) := Int.ofNat_lt.2 hlt
      have hst := cE_step s.data.toList i (by rw [size_l]; exact hlt)
      have hcc : s.data.toList[i]'(by rw [size_l]; exact hlt) = s[i] := rfl
      rw [hcc, size_l] at hst
      have hcase : ((z == 10) = true ∧ Hid (e + 1 + cE (s.data.toList.drop (i + 1)) = E)) ∨ ((z == 10) = false ∧ ((i : Int) == (s.size : Int) - 1) = true ∧ Hid (e + 1 + cE (s.data.toList.drop (i + 1)) = E)) ∨ ((z == 10) = false ∧ ((i : Int) == (s.size : Int) - 1) = false ∧ Hid (e + cE (s.data.toList.drop (i + 1)) = E)) := by
        have hq' := hq.out
        rw [hst] at hq'
        by_cases h10 : s[i] = 10
        · rw [if_pos (.inl h10)] at hq'
          exact .inl ⟨by rw [← hz, h10]; rfl, by unfold Hid; omega⟩
        · have hzf : (z == 10) = false := by
            rw [← hz, beq_eq_false_iff_ne]
            intro e
            exact h10 (UInt8.toNat_inj.1 (by show _ = 10; omega))
          by_cases hl : i + 1 = s.size
          · rw [if_pos (.inr hl)] at hq'
            exact .inr (.inl ⟨hzf, by rw [beq_iff_eq]; omega, by unfold Hid; omega⟩)
          · rw [if_neg (fun h => by rcases h with h | h; exact h10 h; exact hl h)] at hq'
            exact .inr (.inr ⟨hzf, by rw [beq_eq_false_iff_ne]; omega, by unfold Hid; omega⟩)
      have hlt' : Hid (i < s.size) := hlt
      clear hst hcc hq hi
      rcases hcase with ⟨hb, hn⟩ | ⟨hb, hb', hn⟩ | ⟨hb, hb', hn⟩
      · go_wp2_with fail
        go_roundw
        case rel => exact ⟨i + 1, e + 1, hlt'.out, by simp, by simp, hn, trivial⟩
        case measure => have := hlt'.out; simp [intOf]; omega
      · go_wp2_with fail
        go_roundw
        case rel => exact ⟨i + 1, e + 1, hlt'.out, by simp, by simp, hn, trivial⟩
        case measure => have := hlt'.out; simp [intOf]; omega
      · go_wp2_with fail
        go_roundw
        case rel => exact ⟨i + 1, e, hlt'.out, by simp, rfl, hn, trivial⟩
        case measure => have := hlt'.out; simp [intOf]; omega
    · have k1 : ¬ (i : Int) < (s.size : Int) := by omega
      have he : e = E := by
        have := hq.out
        rw [List.drop_of_length_le (by rw [size_l]; omega)] at this
        exact this
      subst he
      clear hq hi hlt
      rcases hcs'.out with h1 | ⟨h1, hLt⟩
      · obtain ⟨c0, f0⟩ := R5.out.cell
        obtain ⟨d0, d1⟩ := R5.out.done true
        have d0' : Hid _ := d0
        have d1' : Hid _ := d1
        have hb : ((at0 : Int) == (e : Int)) = true := by rw [h1]; simp
        clear d0 d1 hcs' h1
        go_wp2_with (go_at_call 9; refine (num_any _ _).mono ?_; rintro e w9 ⟨rfl, rfl⟩)
        exact bodyPost_ret (results_b rfl _ _ _ _ rfl d0'.out) rfl ⟨rfl, d1'.out⟩
      · have hb : ((at0 : Int) == (e : Int)) = false := by rw [beq_eq_false_iff_ne]; omega
        have hL2 : Hid (∀ W, Below w.heap.size w W → Calls Tryz.prog 10 #[.string t] W fun e w' => ∃ a nl c, e = .returned (.tuple #[.slice a nl c, .int .i64 (er : Int), .int .i64 (at0 : Int)]) ∧ Below W.heap.size W w') := hLt
        clear hcs' h1 hLt
        go_upto_region 20 with (first
          | (go_at_call 9; refine (num_any _ _).mono ?_; rintro e w9 ⟨rfl, rfl⟩)
          | (go_at_call 10; refine (hL2.out _ R5.out.2).mono ?_; rintro e w6 ⟨a6, n6, c6, rfl, hb6⟩; have R6 : Hid (Rb w w6) := R5.out.below hb6; clear hb6))
        obtain ⟨c0, f0⟩ := R6.out.cell
        obtain ⟨d0, d1⟩ := R6.out.done true
        have d0' : Hid _ := d0
        have d1' : Hid _ := d1
        clear d0 d1
        go_wp2_with (go_at_call 9; refine (num_any _ _).mono ?_; rintro e w9 ⟨rfl, rfl⟩)
        exact bodyPost_ret (results_b rfl _ _ _ _ rfl d0'.out) rfl ⟨rfl, d1'.out⟩
end Rd
end Go.Proofs.YtfpphhbpoaobfaaGreatDoor
