import Derived.Test.YtoomoicjoockjaaGreatDoorLrC
import Derived.Lib.AppendZeros
import Derived.Laws.StructEq
namespace Go.Proofs.YtoomoicjoockjaaGreatDoor
namespace Lr
open Go.RowKit
set_option linter.unusedVariables false
set_option maxRecDepth 100000

theorem ne_pair (c s : ByteArray) (W : World) :
    (binOp .neq 50 (.agg #[.string c, .string s]) (.agg #[.string c, .string s])).run Tryz.prog W = .ok (.bool false) W := by
  have hS : Tryz.prog.underlying 50 = some (.struct (Tryz.prog.fieldsOf 50)) := by kernel_rfl
  have hp : Tryz.prog.stoodInHeld 50 = false := by kernel_rfl
  rw [run_neq_struct, run_equalIn_struct _ _ _ _ _ hS hp]
  simp only [Program.fieldsOf, Tryz.underlying50]
  simp [Op.eqFields, go_sem]

set_option maxHeartbeats 1000000 in
theorem sameRecord_any (la lb : Int) (nm : ByteArray) (l : List PR) (n : Nat) (hn : l.length = n) (a b : Option Addr) (c d : Nat) (w : World) (hl : n ≤ 4194310) (h1 : PRow w a l) (h2 : PRow w b l) :
    Calls Tryz.prog 10 #[.agg #[.int .i64 la, .string nm, .slice a n c], .agg #[.int .i64 lb, .string nm, .slice b n d]] w fun e w' => e = .returned (.bool true) ∧ Below w.heap.size w w' := by
  obtain ⟨Wa, hWa⟩ : ∃ W, w.alloc (.cells #[.int .i64 la, .string nm, .slice a n c] 34) = W := ⟨_, rfl⟩
  obtain ⟨Wb, hWb⟩ : ∃ W, Wa.alloc (.cells #[.int .i64 lb, .string nm, .slice b n d] 34) = W := ⟨_, rfl⟩
  have na : Wa.heap.size = w.heap.size + 1 := by rw [← hWa]; simp
  have xa0 : Wa.heap[w.heap.size]? = some (.cells #[.int .i64 la, .string nm, .slice a n c] 34 (0, 0)) := by rw [← hWa]; exact heap_alloc_new _ _
  have bab : Below Wa.heap.size Wa Wb := by rw [← hWb]; exact (Below.refl _ _).alloc (Nat.le_refl _) _
  have xa : Wb.heap[w.heap.size]? = some (.cells #[.int .i64 la, .string nm, .slice a n c] 34 (0, 0)) := by rw [bab.block _ (by omega)]; exact xa0
  have xb : Wb.heap[w.heap.size + 1]? = some (.cells #[.int .i64 lb, .string nm, .slice b n d] 34 (0, 0)) := by rw [← na, ← hWb]; exact heap_alloc_new _ _
  have hB : Below w.heap.size w Wb := by
    rw [← hWb, ← hWa]
    exact ((Below.refl _ _).alloc (Nat.le_refl _) _).alloc (by simp) _
  have c1 : Wb.cell? ⟨w.heap.size, 1, none⟩ = some (.string nm) := by rw [cell_of_row _ _ _ _ _ _ xa]; rfl
  have c2 : Wb.cell? ⟨w.heap.size, 2, none⟩ = some (.slice a n c) := by rw [cell_of_row _ _ _ _ _ _ xa]; rfl
  have d1 : Wb.cell? ⟨w.heap.size + 1, 1, none⟩ = some (.string nm) := by rw [cell_of_row _ _ _ _ _ _ xb]; rfl
  have d2 : Wb.cell? ⟨w.heap.size + 1, 2, none⟩ = some (.slice b n d) := by rw [cell_of_row _ _ _ _ _ _ xb]; rfl
  have hB' : Hid (Below w.heap.size w Wb) := hB
  have h1' : Hid (PRow Wb a l) := h1.below pV_len hB
  have h2' : Hid (PRow Wb b l) := h2.below pV_len hB
  have hc2 : Hid (∀ q, (Wb.drewN q).cell? ⟨w.heap.size, 2, none⟩ = some (.slice a n c) ∧ (Wb.drewN q).cell? ⟨w.heap.size + 1, 2, none⟩ = some (.slice b n d)) := fun q => ⟨c2, d2⟩
  have hn' : Hid (l.length = n) := hn
  have nb : (n : Int) ≤ 4194310 := by omega
  clear xa0 xa xb bab hB h1 h2 hn hl
  go_enter Tryz.func10, Tryz.ntmps10
  go_wp2_with fail
  clear c1 c2 d1 d2
  go_loopw [5] (fun iv wr => ∃ i q : Nat, i ≤ n ∧ iv = .int .i64 (i : Int) ∧ Hid (wr = Wb.drewN q)) (fun iv _ => n - (intOf iv).toNat)
  case atStart => exact ⟨0, 0, Nat.zero_le _, rfl, rfl⟩
  case round =>
    obtain ⟨i, q, hi, rfl, hw⟩ := hrel
    have i0 : (0 : Int) ≤ (i : Int) := Int.natCast_nonneg _
    have hcc := hc2.out q
    rw [← hw.out] at hcc
    obtain ⟨f1, f2⟩ := hcc
    by_cases hlt : i < n
    · have hil : i < l.length := by rw [hn'.out]; exact hlt
      obtain ⟨b1, o1, rfl, p1, p2⟩ := prow_at h1'.out i hil
      obtain ⟨b2, o2, rfl, q1, q2⟩ := prow_at h2'.out i hil
      have hE : ∀ a, wr.cell? a = Wb.cell? a := fun a => by rw [hw.out]; rfl
      rw [← hE] at p1 p2 q1 q2
      have i1 : (i : Int) < (n : Int) := Int.ofNat_lt.2 hlt
      generalize S l[i].1 = X at *
      generalize S l[i].2 = Y at *
      have hne := ne_pair X Y
      have hlt' : Hid (i < n) := hlt
      clear hE hil hlt hi
      go_wp2_with fail
      go_quiet (fail)
      go_wp2_with fail
      go_roundw
      case rel => exact ⟨i + 1, _, hlt'.out, by simp, by unfold Hid; rw [hw.out, World.drewN_drewN]⟩
      case measure => have := hlt'.out; simp [intOf]; omega
    · have e : n = i := by omega
      subst e
      have k1 : ¬ (n : Int) < (n : Int) := by omega
      have hfin : Hid (Below w.heap.size w wr) := by unfold Hid; rw [hw.out]; exact hB'.out.trans (drewN_below _ _ _)
      clear hlt hi
      go_wp2_with fail
      go_ret
      exact ⟨rfl, hfin.out⟩

set_option maxHeartbeats 2000000 in
theorem sameRecords_any (a b : Option Addr) (c d : Nat) (L M : List RX) (n : Nat) (w : World) (hL : L.length = n) (hM : M.length = n) (hl : n ≤ 4194310) (h1 : RRow w a L) (h2 : RRow w b M) (hs : ∀ i (h : i < L.length) (h' : i < M.length), L[i].1 = M[i].1 ∧ said L[i] = said M[i]) (hz : ∀ r ∈ L, r.2.2.2.2.length ≤ 4194310) :
    Calls Tryz.prog 7 #[.slice a n c, .slice b n d, .bool true] w fun e w' => e = .returned (.bool true) ∧ Below w.heap.size w w' := by
  have h1' : Hid (RRow w a L) := h1
  have h2' : Hid (RRow w b M) := h2
  have hs' : Hid (∀ i (h : i < L.length) (h' : i < M.length), L[i].1 = M[i].1 ∧ said L[i] = said M[i]) := hs
  have hz' : Hid (∀ r ∈ L, r.2.2.2.2.length ≤ 4194310) := hz
  have hLM : Hid (L.length = n ∧ M.length = n) := ⟨hL, hM⟩
  have nb : (n : Int) ≤ 4194310 := by omega
  clear h1 h2 hs hz hL hM hl
  go_enter Tryz.func7, Tryz.ntmps7
  go_wp2_with fail
  go_loopw [7] (fun iv wr => ∃ i : Nat, i ≤ n ∧ iv = .int .i64 (i : Int) ∧ Hid (Below w.heap.size w wr)) (fun iv _ => n - (intOf iv).toNat)
  case atStart => exact ⟨0, Nat.zero_le _, rfl, Below.refl _ _⟩
  case round =>
    obtain ⟨i, hi, rfl, hB⟩ := hrel
    have i0 : (0 : Int) ≤ (i : Int) := Int.natCast_nonneg _
    by_cases hlt : i < n
    · have i1 : (i : Int) < (n : Int) := Int.ofNat_lt.2 hlt
      have hiL : i < L.length := by rw [hLM.out.1]; exact hlt
      have hiM : i < M.length := by rw [hLM.out.2]; exact hlt
      obtain ⟨b1, o1, rfl, c0, c1, c2⟩ := rrow_at h1'.out i hiL
      obtain ⟨b2, o2, rfl, d0, d1, d2⟩ := rrow_at h2'.out i hiM
      have r1 := (h1'.out.2 _ (List.getElem_mem hiL)).1
      have r2 := (h2'.out.2 _ (List.getElem_mem hiM)).1
      have hsi := hs'.out i hiL hiM
      have hzi := hz'.out _ (List.getElem_mem hiL)
      obtain ⟨⟨ln, nm, pa, pc, ps⟩, hx⟩ : ∃ x, L[i] = x := ⟨_, rfl⟩
      obtain ⟨⟨ln', nm', pa', pc', ps'⟩, hy⟩ : ∃ y, M[i] = y := ⟨_, rfl⟩
      rw [hx] at c0 c1 c2 r1 hsi hzi
      rw [hy] at d0 d1 d2 r2 hsi
      dsimp only [said] at c0 c1 c2 r1 d0 d1 d2 r2 hsi hzi
      obtain ⟨rfl, hsi⟩ := hsi
      injection hsi with e1 e2
      subst e1 e2
      have hcl : Hid (∀ W, Below w.heap.size w W → (W.cell? ⟨b1, o1 + i * 3, none⟩ = some (.int .i64 ln) ∧ W.cell? ⟨b1, o1 + i * 3 + 1, none⟩ = some (.string (S nm)) ∧ W.cell? ⟨b1, o1 + i * 3 + 2, none⟩ = some (.slice pa ps.length pc)) ∧ W.cell? ⟨b2, o2 + i * 3, none⟩ = some (.int .i64 ln) ∧ W.cell? ⟨b2, o2 + i * 3 + 1, none⟩ = some (.string (S nm)) ∧ W.cell? ⟨b2, o2 + i * 3 + 2, none⟩ = some (.slice pa' ps.length pc')) := fun W hW => by
        refine ⟨⟨?_, ?_, ?_⟩, ?_, ?_, ?_⟩
        · rw [hW.cell (World.block_lt_of_cell? w _ c0)]; exact c0
        · rw [hW.cell (World.block_lt_of_cell? w _ c1)]; exact c1
        · rw [hW.cell (World.block_lt_of_cell? w _ c2)]; exact c2
        · rw [hW.cell (World.block_lt_of_cell? w _ d0)]; exact d0
        · rw [hW.cell (World.block_lt_of_cell? w _ d1)]; exact d1
        · rw [hW.cell (World.block_lt_of_cell? w _ d2)]; exact d2
      obtain ⟨N, hN⟩ : ∃ N, S nm = N := ⟨_, rfl⟩
      obtain ⟨m, hm⟩ : ∃ m, ps.length = m := ⟨_, rfl⟩
      have hS : Hid (∀ W, Below w.heap.size w W → Calls Tryz.prog 10 #[.agg #[.int .i64 ln, .string N, .slice pa m pc], .agg #[.int .i64 ln, .string N, .slice pa' m pc']] W fun e w' => e = .returned (.bool true) ∧ Below W.heap.size W w') := fun W hW => by
        exact sameRecord_any ln ln N ps m hm pa pa' pc pc' W (by omega) (r1.below pV_len hW) (r2.below pV_len hW)
      rw [hN, hm] at hcl
      have hlt' : Hid (i < n) := hlt
      clear hx hy hN hm c0 c1 c2 d0 d1 d2 r1 r2 hzi hiL hiM hlt hi
      go_upto_region 6 with fail
      have HD : Hid (Below w.heap.size w wr.drew) := hB.out.trans ((drewN_below wr wr.heap.size 1).mono hB.out.size)
      have cd := hcl.out wr.drew HD.out
      go_region_held3 (fun w' => (w'.cell? ⟨b1, o1 + i * 3, none⟩ = some (.int .i64 ln) ∧ w'.cell? ⟨b1, o1 + i * 3 + 1, none⟩ = some (.string N) ∧ w'.cell? ⟨b1, o1 + i * 3 + 2, none⟩ = some (.slice pa m pc)) ∧ w'.cell? ⟨b2, o2 + i * 3, none⟩ = some (.int .i64 ln) ∧ w'.cell? ⟨b2, o2 + i * 3 + 1, none⟩ = some (.string N) ∧ w'.cell? ⟨b2, o2 + i * 3 + 2, none⟩ = some (.slice pa' m pc'))
        (first | exact cc8 | exact cd)
        (first | (go_at_call 10; refine (hS.out wr.drew HD.out).mono ?_; rintro e w8 ⟨rfl, hb8⟩; have H8 : Hid (Below w.heap.size w w8) := HD.out.trans (hb8.mono HD.out.size); have cc8 := hcl.out w8 H8.out; clear hb8))
      clear cd
      obtain ⟨⟨f1, f2, f3⟩, g1, g2, g3⟩ := cc8
      go_upto_region 7 with fail
      go_quiet (fail)
      go_wp2_with fail
      go_roundw
      case rel => exact ⟨i + 1, hlt'.out, by simp, H8.out.trans (drewN_below _ _ _)⟩
      case measure => have := hlt'.out; simp [intOf]; omega
    · have e : n = i := by omega
      subst e
      have i1 : ¬ (n : Int) < (n : Int) := by omega
      clear hi hlt
      go_wp2_with fail
      go_ret
      exact ⟨rfl, hB.out⟩
set_option maxHeartbeats 2000000 in
theorem sameRecordsF_any (a b : Option Addr) (c d : Nat) (L M : List RX) (n : Nat) (w : World) (hL : L.length = n) (hM : M.length = n) (hl : n ≤ 4194310) (h1 : RRow w a L) (h2 : RRow w b M) (hs : ∀ i (h : i < L.length) (h' : i < M.length), said L[i] = said M[i]) (hz : ∀ r ∈ L, r.2.2.2.2.length ≤ 4194310) :
    Calls Tryz.prog 7 #[.slice a n c, .slice b n d, .bool false] w fun e w' => e = .returned (.bool true) ∧ Below w.heap.size w w' := by
  have h1' : Hid (RRow w a L) := h1
  have h2' : Hid (RRow w b M) := h2
  have hs' : Hid (∀ i (h : i < L.length) (h' : i < M.length), said L[i] = said M[i]) := hs
  have hz' : Hid (∀ r ∈ L, r.2.2.2.2.length ≤ 4194310) := hz
  have hLM : Hid (L.length = n ∧ M.length = n) := ⟨hL, hM⟩
  have nb : (n : Int) ≤ 4194310 := by omega
  clear h1 h2 hs hz hL hM hl
  go_enter Tryz.func7, Tryz.ntmps7
  go_wp2_with fail
  go_loopw [7] (fun iv wr => ∃ i : Nat, i ≤ n ∧ iv = .int .i64 (i : Int) ∧ Hid (Below w.heap.size w wr)) (fun iv _ => n - (intOf iv).toNat)
  case atStart => exact ⟨0, Nat.zero_le _, rfl, Below.refl _ _⟩
  case round =>
    obtain ⟨i, hi, rfl, hB⟩ := hrel
    have i0 : (0 : Int) ≤ (i : Int) := Int.natCast_nonneg _
    by_cases hlt : i < n
    · have i1 : (i : Int) < (n : Int) := Int.ofNat_lt.2 hlt
      have hiL : i < L.length := by rw [hLM.out.1]; exact hlt
      have hiM : i < M.length := by rw [hLM.out.2]; exact hlt
      obtain ⟨b1, o1, rfl, c0, c1, c2⟩ := rrow_at h1'.out i hiL
      obtain ⟨b2, o2, rfl, d0, d1, d2⟩ := rrow_at h2'.out i hiM
      have r1 := (h1'.out.2 _ (List.getElem_mem hiL)).1
      have r2 := (h2'.out.2 _ (List.getElem_mem hiM)).1
      have hsi := hs'.out i hiL hiM
      have hzi := hz'.out _ (List.getElem_mem hiL)
      obtain ⟨⟨ln, nm, pa, pc, ps⟩, hx⟩ : ∃ x, L[i] = x := ⟨_, rfl⟩
      obtain ⟨⟨ln', nm', pa', pc', ps'⟩, hy⟩ : ∃ y, M[i] = y := ⟨_, rfl⟩
      rw [hx] at c0 c1 c2 r1 hsi hzi
      rw [hy] at d0 d1 d2 r2 hsi
      dsimp only [said] at c0 c1 c2 r1 d0 d1 d2 r2 hsi hzi
      injection hsi with e1 e2
      subst e1 e2
      have hcl : Hid (∀ W, Below w.heap.size w W → (W.cell? ⟨b1, o1 + i * 3, none⟩ = some (.int .i64 ln) ∧ W.cell? ⟨b1, o1 + i * 3 + 1, none⟩ = some (.string (S nm)) ∧ W.cell? ⟨b1, o1 + i * 3 + 2, none⟩ = some (.slice pa ps.length pc)) ∧ W.cell? ⟨b2, o2 + i * 3, none⟩ = some (.int .i64 ln') ∧ W.cell? ⟨b2, o2 + i * 3 + 1, none⟩ = some (.string (S nm)) ∧ W.cell? ⟨b2, o2 + i * 3 + 2, none⟩ = some (.slice pa' ps.length pc')) := fun W hW => by
        refine ⟨⟨?_, ?_, ?_⟩, ?_, ?_, ?_⟩
        · rw [hW.cell (World.block_lt_of_cell? w _ c0)]; exact c0
        · rw [hW.cell (World.block_lt_of_cell? w _ c1)]; exact c1
        · rw [hW.cell (World.block_lt_of_cell? w _ c2)]; exact c2
        · rw [hW.cell (World.block_lt_of_cell? w _ d0)]; exact d0
        · rw [hW.cell (World.block_lt_of_cell? w _ d1)]; exact d1
        · rw [hW.cell (World.block_lt_of_cell? w _ d2)]; exact d2
      obtain ⟨N, hN⟩ : ∃ N, S nm = N := ⟨_, rfl⟩
      obtain ⟨m, hm⟩ : ∃ m, ps.length = m := ⟨_, rfl⟩
      have hS : Hid (∀ W, Below w.heap.size w W → Calls Tryz.prog 10 #[.agg #[.int .i64 ln, .string N, .slice pa m pc], .agg #[.int .i64 ln', .string N, .slice pa' m pc']] W fun e w' => e = .returned (.bool true) ∧ Below W.heap.size W w') := fun W hW => by
        exact sameRecord_any ln ln' N ps m hm pa pa' pc pc' W (by omega) (r1.below pV_len hW) (r2.below pV_len hW)
      rw [hN, hm] at hcl
      have hlt' : Hid (i < n) := hlt
      clear hx hy hN hm c0 c1 c2 d0 d1 d2 r1 r2 hzi hiL hiM hlt hi
      go_upto_region 6 with fail
      have HD : Hid (Below w.heap.size w wr.drew) := hB.out.trans ((drewN_below wr wr.heap.size 1).mono hB.out.size)
      have cd := hcl.out wr.drew HD.out
      go_region_held3 (fun w' => (w'.cell? ⟨b1, o1 + i * 3, none⟩ = some (.int .i64 ln) ∧ w'.cell? ⟨b1, o1 + i * 3 + 1, none⟩ = some (.string N) ∧ w'.cell? ⟨b1, o1 + i * 3 + 2, none⟩ = some (.slice pa m pc)) ∧ w'.cell? ⟨b2, o2 + i * 3, none⟩ = some (.int .i64 ln') ∧ w'.cell? ⟨b2, o2 + i * 3 + 1, none⟩ = some (.string N) ∧ w'.cell? ⟨b2, o2 + i * 3 + 2, none⟩ = some (.slice pa' m pc'))
        (first | exact cc8 | exact cd)
        (first | (go_at_call 10; refine (hS.out wr.drew HD.out).mono ?_; rintro e w8 ⟨rfl, hb8⟩; have H8 : Hid (Below w.heap.size w w8) := HD.out.trans (hb8.mono HD.out.size); have cc8 := hcl.out w8 H8.out; clear hb8))
      clear cd
      obtain ⟨⟨f1, f2, f3⟩, g1, g2, g3⟩ := cc8
      go_upto_region 7 with fail
      go_quiet (fail)
      go_wp2_with fail
      go_roundw
      case rel => exact ⟨i + 1, hlt'.out, by simp, H8.out.trans (drewN_below _ _ _)⟩
      case measure => have := hlt'.out; simp [intOf]; omega
    · have e : n = i := by omega
      subst e
      have i1 : ¬ (n : Int) < (n : Int) := by omega
      clear hi hlt
      go_wp2_with fail
      go_ret
      exact ⟨rfl, hB.out⟩
end Lr
end Go.Proofs.YtoomoicjoockjaaGreatDoor
