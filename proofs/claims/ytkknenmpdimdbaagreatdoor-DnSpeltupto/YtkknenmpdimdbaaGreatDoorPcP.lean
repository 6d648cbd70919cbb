import Derived.Test.YtkknenmpdimdbaaGreatDoorQX
import Derived.Test.YtkknenmpdimdbaaGreatDoorQY
namespace Go.Proofs.YtkknenmpdimdbaaGreatDoor
namespace Pa
open Go.RowKit
open TextMath (fold lo normal check wo unhex)
open Ke (mst PR)
open Bl (NRw Pk NxQ next_any)
set_option linter.unusedVariables false
set_option linter.unusedSimpArgs false
set_option maxRecDepth 100000

/-- The picks, laid behind what was; I of the numbers were used. -/
def PkN (w : World) (a : Option Addr) (n c I : Nat) (W : World) : Prop := Below w.heap.size w W ∧ W.heap[w.heap.size]? = some (.cells #[.slice a n c, .int .i64 (I : Int)] 29 (0, 0))
variable {w W W' : World} {a : Option Addr} {n c I : Nat}
theorem nrw_below {k : Nat} (h : NRw w a k) (hb : Below w.heap.size w W) : NRw W a k := fun i hi => by
  obtain ⟨b, off, x, e, hc⟩ := h i hi
  exact ⟨b, off, x, e, by rw [hb.cell (World.block_lt_of_cell? _ _ hc)]; exact hc⟩
theorem PkN.lt (h : PkN w a n c I W) : w.heap.size < W.heap.size := (Array.getElem?_eq_some_iff.1 h.2).1
theorem PkN.pk (h : PkN w a n c I W) (hr : NRw w a n) : Pk W w.heap.size a n c I := ⟨h.2, nrw_below hr h.1⟩
theorem PkN.below (h : PkN w a n c I W) (hb : Below W.heap.size W W') : PkN w a n c I W' := ⟨h.1.trans (hb.mono h.1.size), by rw [hb.block _ h.lt]; exact h.2⟩
theorem PkN.drew (h : PkN w a n c I W) (q : Nat) : PkN w a n c I (W.drewN q) := h.below (Du.drewN_below _ _ _)
theorem PkN.set (h : PkN w a n c I W) (k : Nat) : PkN w a n c k (W.setCell ⟨w.heap.size, 1, none⟩ (.int .i64 (k : Int))) :=
  ⟨h.1.setCell (p := ⟨w.heap.size, 1, none⟩) (Nat.le_refl _) _, by rw [Go.heap_setCell_same _ _ _ _ _ _ h.2]; simp⟩
/-- What next answers, and leaves. -/
def NxN (w : World) (a : Option Addr) (n c I : Nat) (m : Int) (W : World) (e : Ending) (W' : World) : Prop := ∃ k I' : Nat, e = .returned (.int .i64 (k : Int)) ∧ (k : Int) < m ∧ I' ≤ I + 1 ∧ PkN w a n c I' W' ∧ Wb w.heap.size W W'
theorem nextN (m : Int) (h : PkN w a n c I W) (hr : NRw w a n) (hm : 0 < m) (hm2 : m ≤ 1048576) (hI : I ≤ 1073741824) (hn : n ≤ 1073741824) :
    Calls Tryz.prog 52 #[.pointer (some ⟨w.heap.size, 0, none⟩), .int .i64 m] W fun e w' => NxN w a n c I m W e w' := by
  refine (next_any w.heap.size a n c I m W (h.pk hr) hm hm2 hI hn).mono ?_
  rintro e w' ⟨⟨k, he, hk⟩, rfl | ⟨q, rfl⟩⟩
  · exact ⟨k, I, he, hk, Nat.le_succ _, h, Wb.refl _ _⟩
  · exact ⟨k, I + 1, he, hk, Nat.le_refl _, (h.drew q).set (I + 1), wb_drew.set 1 _⟩
/-- Some spaces. -/
def SpsQ (w : World) (a : Option Addr) (n c I : Nat) (e : Ending) (W' : World) : Prop := ∃ m I' : Nat, e = .returned (.string (S (rp m))) ∧ m ≤ 2 ∧ I' ≤ I + 1 ∧ PkN w a n c I' W'
set_option maxHeartbeats 2000000 in
theorem spaces_any (h : PkN w a n c I W) (hr : NRw w a n) (hI : I ≤ 1073741824) (hn : n ≤ 1073741824) :
    Calls Tryz.prog 27 #[.pointer (some ⟨w.heap.size, 0, none⟩)] W fun e w' => SpsQ w a n c I e w' := by
  have hN : Hid (Calls Tryz.prog 52 #[.pointer (some ⟨w.heap.size, 0, none⟩), .int .i64 4] W fun e w' => NxN w a n c I 4 W e w') := nextN 4 h hr (by decide) (by decide) hI hn
  obtain ⟨g, hg⟩ : ∃ g, w.heap.size = g := ⟨_, rfl⟩
  rw [hg] at hN ⊢
  have e1 : S (rp 1) = ⟨#[32]⟩ := by decide
  have e2 : S (rp 2) = ⟨#[32, 32]⟩ := by decide
  clear h hr hI hn
  go_enter Tryz.func27, Tryz.ntmps27
  go_wp2_with fail
  refine hN.out.mono ?_
  rintro e w1 ⟨k, I', rfl, hk, hI', hP, _⟩
  have hF : Hid (∀ m, m ≤ 2 → SpsQ w a n c I (.returned (.string (S (rp m)))) w1) := fun m hm => ⟨m, I', rfl, hm, hI', hP⟩
  clear hN hP hI'
  have hk4 : k = 0 ∨ k = 1 ∨ k = 2 ∨ k = 3 := by omega
  clear hk
  rcases hk4 with rfl | rfl | rfl | rfl
  · have f := hF.out 0 (by decide)
    have f' : Hid (SpsQ w a n c I (.returned (.string ⟨#[]⟩)) w1) := f
    clear f hF
    go_wp2_with fail
    go_ret
    exact f'.out
  · have f := hF.out 1 (by decide)
    rw [e1] at f
    have f' : Hid (SpsQ w a n c I (.returned (.string ⟨#[32]⟩)) w1) := f
    clear f hF
    go_wp2_with fail
    go_ret
    exact f'.out
  · have f := hF.out 2 (by decide)
    rw [e2] at f
    have f' : Hid (SpsQ w a n c I (.returned (.string ⟨#[32, 32]⟩)) w1) := f
    clear f hF
    go_wp2_with fail
    go_ret
    exact f'.out
  · have f := hF.out 0 (by decide)
    have f' : Hid (SpsQ w a n c I (.returned (.string ⟨#[]⟩)) w1) := f
    clear f hF
    go_wp2_with fail
    go_ret
    exact f'.out
/-- Two digits of a byte. -/
def PoQ (w : World) (a : Option Addr) (n c I : Nat) (b : UInt8) (e : Ending) (W' : World) : Prop := ∃ (x y : UInt8) (I' : Nat), e = .returned (.string (S [x, y])) ∧ Hx2 b x y ∧ I' ≤ I + 1 ∧ PkN w a n c I' W'
theorem two_back (W : World) (x y : UInt8) : (convert 87 9 (.slice (some ⟨W.heap.size, 0, none⟩) 2 2)).run Tryz.prog (W.alloc (.cells #[.int .u8 (x.toNat : Int), .int .u8 (y.toNat : Int)] 5)).drew = .ok (.string (S [x, y])) (W.alloc (.cells #[.int .u8 (x.toNat : Int), .int .u8 (y.toNat : Int)] 5)).drew := by
  refine conv_back (P := Tryz.prog) _ _ _ _ W.heap.size 2 2 [x, y] Tryz.underlying87 Tryz.underlying5 Tryz.underlying9 rfl ?_
  intro j hj
  have : j = 0 ∨ j = 1 := by simp at hj; omega
  rcases this with rfl | rfl <;> simp [go_sem]
def smD : ByteArray := ⟨#[48, 49, 50, 51, 52, 53, 54, 55, 56, 57, 97, 98, 99, 100, 101, 102]⟩
def grD : ByteArray := ⟨#[48, 49, 50, 51, 52, 53, 54, 55, 56, 57, 65, 66, 67, 68, 69, 70]⟩
theorem smD_wo : smD.size = 16 ∧ ∀ q (h : q < smD.size), wo smD[q] = some q := ⟨rfl, by
  have key : ∀ q : Fin 16, wo (smD.data.toList.getD q.val 0) = some q.val := by decide +kernel
  intro q h
  have := key ⟨q, h⟩
  rw [List.getD_eq_getElem?_getD, List.getElem?_eq_getElem (by exact h)] at this
  exact this⟩
theorem grD_wo : grD.size = 16 ∧ ∀ q (h : q < grD.size), wo grD[q] = some q := ⟨rfl, by
  have key : ∀ q : Fin 16, wo (grD.data.toList.getD q.val 0) = some q.val := by decide +kernel
  intro q h
  have := key ⟨q, h⟩
  rw [List.getD_eq_getElem?_getD, List.getElem?_eq_getElem (by exact h)] at this
  exact this⟩
set_option maxHeartbeats 4000000 in
theorem pairOf_any (b : UInt8) (h : PkN w a n c I W) (hr : NRw w a n) (hI : I ≤ 1073741824) (hn : n ≤ 1073741824) :
    Calls Tryz.prog 55 #[.pointer (some ⟨w.heap.size, 0, none⟩), .int .u8 (b.toNat : Int)] W fun e w' => PoQ w a n c I b e w' := by
  have hN : Hid (Calls Tryz.prog 52 #[.pointer (some ⟨w.heap.size, 0, none⟩), .int .i64 2] W fun e w' => NxN w a n c I 2 W e w') := nextN 2 h hr (by decide) (by decide) hI hn
  obtain ⟨g, hg⟩ : ∃ g, w.heap.size = g := ⟨_, rfl⟩
  rw [hg] at hN ⊢
  have hsm : Hid (smD = ⟨#[48, 49, 50, 51, 52, 53, 54, 55, 56, 57, 97, 98, 99, 100, 101, 102]⟩) := rfl
  have hgr : Hid (grD = ⟨#[48, 49, 50, 51, 52, 53, 54, 55, 56, 57, 65, 66, 67, 68, 69, 70]⟩) := rfl
  clear h hr hI hn
  go_enter Tryz.func55, Tryz.ntmps55
  go_wp2_with fail
  refine hN.out.mono ?_
  rintro e w1 ⟨k, I', rfl, hk, hI', hP, _⟩
  have hF : Hid (∀ x y, Hx2 b x y → PoQ w a n c I b (.returned (.string (S [x, y]))) (w1.alloc (.cells #[.int .u8 (x.toNat : Int), .int .u8 (y.toNat : Int)] 5)).drew) := fun x y hx => ⟨x, y, I', rfl, hx, hI', (hP.below ((Below.refl _ _).alloc (Nat.le_refl _) _)).below ⟨rfl, rfl, rfl, Nat.le_refl _, fun _ _ => rfl⟩⟩
  have hb1 : b.toNat < 256 := b.toNat_lt
  obtain ⟨q, hq⟩ : ∃ q : Nat, b.toNat / 16 = q := ⟨_, rfl⟩
  obtain ⟨r, hr⟩ : ∃ r : Nat, b.toNat % 16 = r := ⟨_, rfl⟩
  have hqr : Hid (b.toNat / 16 = q ∧ b.toNat % 16 = r) := ⟨hq, hr⟩
  have q16 : q < 16 := by omega
  have r16 : r < 16 := by omega
  have hqi : (b.toNat : Int) / 16 = (q : Int) := by omega
  have hri : (b.toNat : Int) % 16 = (r : Int) := by omega
  have hwq : IntKind.u8.wrap (q : Int) = (q : Int) := by rw [IntKind.wrap_u8]; omega
  have htm : (b.toNat : Int).tmod 16 = (r : Int) := by rw [Int.tmod_eq_emod_of_nonneg (Int.natCast_nonneg _)]; exact hri
  have q0 : (0 : Int) ≤ (q : Int) := Int.natCast_nonneg _
  have r0 : (0 : Int) ≤ (r : Int) := Int.natCast_nonneg _
  clear hN hP hI' hq hr hb1
  have hke : k = 0 ∨ k = 1 := by omega
  rcases hke with hke | hke
  · have hk1 : ((k : Int) == 1) = false := by rw [beq_eq_false_iff_ne]; omega
    clear hke hk
    go_upto_region 5 with fail
    rw [← hsm.out]
    obtain ⟨hz, hw⟩ := smD_wo
    generalize smD = D at *
    clear hsm hgr hk1
    have hql : q < D.size := by omega
    have hrl : r < D.size := by omega
    have hqs : (q : Int) < (D.size : Int) := by omega
    have hrs : (r : Int) < (D.size : Int) := by omega
    have hfin := hF.out D[q] D[r] ⟨by rw [hw q hql, hqr.out.1], by rw [hw r hrl, hqr.out.2]⟩
    have hcv := two_back w1 D[q] D[r]
    have hfin' : Hid (PoQ w a n c I b (.returned (.string (S [D[q], D[r]]))) (w1.alloc (.cells #[.int .u8 (D[q].toNat : Int), .int .u8 (D[r].toNat : Int)] 5)).drew) := hfin
    clear hF hfin hw hqr hz
    refine Du.regionP (fun i => i == 99) (fun w' => True) (by kernel_rfl) ?_
    refine RgN.n_takeW 0 ?vab1 (by simp only [List.getElem?_toArray, List.getElem?_cons_zero]; exact rfl) (by kernel_rfl) (by kernel_rfl) (by kernel_rfl) rfl (by rfl) ?yab1 ?rab1
    case yab1 =>
      intro w'
      go_simp
      try with_reducible rfl
    case rab1 =>
    simp only [Act.put, List.setIfInBounds_toArray, List.set_cons_zero, List.set_cons_succ]
    refine RgN.n_takeW 1 ?vab2 (by simp only [List.getElem?_toArray, List.getElem?_cons_zero, List.getElem?_cons_succ]; exact rfl) (by kernel_rfl) (by kernel_rfl) (by kernel_rfl) rfl (by rfl) ?yab2 ?rab2
    case yab2 =>
      intro w'
      go_simp
      try with_reducible rfl
    case rab2 =>
    simp only [Act.put, List.setIfInBounds_toArray, List.set_cons_zero, List.set_cons_succ]
    refine RgN.n_takeW 2 ?vab3 (by simp only [List.getElem?_toArray, List.getElem?_cons_zero, List.getElem?_cons_succ]; exact rfl) (by kernel_rfl) (by kernel_rfl) (by kernel_rfl) rfl (by rfl) ?yab3 ?rab3
    case yab3 =>
      intro w'
      go_simp
      try with_reducible rfl
    case rab3 =>
    simp only [Act.put, List.setIfInBounds_toArray, List.set_cons_zero, List.set_cons_succ]
    refine RgN.n_takeW 3 ?vab4 (by simp only [List.getElem?_toArray, List.getElem?_cons_zero, List.getElem?_cons_succ]; exact rfl) (by kernel_rfl) (by kernel_rfl) (by kernel_rfl) rfl (by rfl) ?yab4 ?rab4
    case yab4 =>
      intro w'
      go_simp
      try with_reducible rfl
    case rab4 =>
    simp only [Act.put, List.setIfInBounds_toArray, List.set_cons_zero, List.set_cons_succ]
    refine RgN.n_takeW 4 ?vab5 (by simp only [List.getElem?_toArray, List.getElem?_cons_zero, List.getElem?_cons_succ]; exact rfl) (by kernel_rfl) (by kernel_rfl) (by kernel_rfl) rfl (by rfl) ?yab5 ?rab5
    case yab5 =>
      intro w'
      go_simp
      try with_reducible rfl
    case rab5 =>
    simp only [Act.put, List.setIfInBounds_toArray, List.set_cons_zero, List.set_cons_succ]
    refine RgN.n_takeW 5 ?vab6 (by simp only [List.getElem?_toArray, List.getElem?_cons_zero, List.getElem?_cons_succ]; exact rfl) (by kernel_rfl) (by kernel_rfl) (by kernel_rfl) rfl (by rfl) ?yab6 ?rab6
    case yab6 =>
      intro w'
      go_simp
      try with_reducible rfl
    case rab6 =>
    simp only [Act.put, List.setIfInBounds_toArray, List.set_cons_zero, List.set_cons_succ]
    refine RgN.n_takeW 6 ?vab7 (by simp only [List.getElem?_toArray, List.getElem?_cons_zero, List.getElem?_cons_succ]; exact rfl) (by kernel_rfl) (by kernel_rfl) (by kernel_rfl) rfl (by rfl) ?yab7 ?rab7
    case yab7 =>
      intro w'
      go_simp
      try with_reducible rfl
    case rab7 =>
    simp only [Act.put, List.setIfInBounds_toArray, List.set_cons_zero, List.set_cons_succ]
    refine RgN.n_takeW 7 ?vab8 (by simp only [List.getElem?_toArray, List.getElem?_cons_zero, List.getElem?_cons_succ]; exact rfl) (by kernel_rfl) (by kernel_rfl) (by kernel_rfl) rfl (by rfl) ?yab8 ?rab8
    case yab8 =>
      intro w'
      go_simp
      try with_reducible rfl
    case rab8 =>
    simp only [Act.put, List.setIfInBounds_toArray, List.set_cons_zero, List.set_cons_succ]
    refine RgN.n_one 8 (by kernel_rfl) (by simp only [List.getElem?_toArray, List.getElem?_cons_zero, List.getElem?_cons_succ]; exact rfl) (fun K hK => ?_)
    go_simp
    refine hK.out _ _ (fun h => by cases h) ?_
    clear hK K
    try simp only [Act.put, List.setIfInBounds_toArray, List.set_cons_zero, List.set_cons_succ]
    refine RgN.n_one 9 (by kernel_rfl) (by simp only [List.getElem?_toArray, List.getElem?_cons_zero, List.getElem?_cons_succ]; exact rfl) (fun K hK => ?_)
    go_simp
    refine hK.out _ _ (fun h => by cases h) ?_
    clear hK K
    try simp only [Act.put, List.setIfInBounds_toArray, List.set_cons_zero, List.set_cons_succ]
    refine RgN.n_one 10 (by kernel_rfl) (by simp only [List.getElem?_toArray, List.getElem?_cons_zero, List.getElem?_cons_succ]; exact rfl) (fun K hK => ?_)
    go_simp
    refine hK.out _ _ (fun h => by cases h) ?_
    clear hK K
    try simp only [Act.put, List.setIfInBounds_toArray, List.set_cons_zero, List.set_cons_succ]
    refine RgN.n_done (by kernel_rfl) ?_ _
    go_wp2_with fail
    go_ret
    exact hfin'.out
  · have hk1 : ((k : Int) == 1) = true := by rw [beq_iff_eq]; omega
    clear hke hk
    go_upto_region 5 with fail
    rw [← hgr.out]
    obtain ⟨hz, hw⟩ := grD_wo
    generalize grD = D at *
    clear hsm hgr hk1
    have hql : q < D.size := by omega
    have hrl : r < D.size := by omega
    have hqs : (q : Int) < (D.size : Int) := by omega
    have hrs : (r : Int) < (D.size : Int) := by omega
    have hfin := hF.out D[q] D[r] ⟨by rw [hw q hql, hqr.out.1], by rw [hw r hrl, hqr.out.2]⟩
    have hcv := two_back w1 D[q] D[r]
    have hfin' : Hid (PoQ w a n c I b (.returned (.string (S [D[q], D[r]]))) (w1.alloc (.cells #[.int .u8 (D[q].toNat : Int), .int .u8 (D[r].toNat : Int)] 5)).drew) := hfin
    clear hF hfin hw hqr hz
    refine Du.regionP (fun i => i == 99) (fun w' => True) (by kernel_rfl) ?_
    refine RgN.n_takeW 0 ?vac1 (by simp only [List.getElem?_toArray, List.getElem?_cons_zero]; exact rfl) (by kernel_rfl) (by kernel_rfl) (by kernel_rfl) rfl (by rfl) ?yac1 ?rac1
    case yac1 =>
      intro w'
      go_simp
      try with_reducible rfl
    case rac1 =>
    simp only [Act.put, List.setIfInBounds_toArray, List.set_cons_zero, List.set_cons_succ]
    refine RgN.n_takeW 1 ?vac2 (by simp only [List.getElem?_toArray, List.getElem?_cons_zero, List.getElem?_cons_succ]; exact rfl) (by kernel_rfl) (by kernel_rfl) (by kernel_rfl) rfl (by rfl) ?yac2 ?rac2
    case yac2 =>
      intro w'
      go_simp
      try with_reducible rfl
    case rac2 =>
    simp only [Act.put, List.setIfInBounds_toArray, List.set_cons_zero, List.set_cons_succ]
    refine RgN.n_takeW 2 ?vac3 (by simp only [List.getElem?_toArray, List.getElem?_cons_zero, List.getElem?_cons_succ]; exact rfl) (by kernel_rfl) (by kernel_rfl) (by kernel_rfl) rfl (by rfl) ?yac3 ?rac3
    case yac3 =>
      intro w'
      go_simp
      try with_reducible rfl
    case rac3 =>
    simp only [Act.put, List.setIfInBounds_toArray, List.set_cons_zero, List.set_cons_succ]
    refine RgN.n_takeW 3 ?vac4 (by simp only [List.getElem?_toArray, List.getElem?_cons_zero, List.getElem?_cons_succ]; exact rfl) (by kernel_rfl) (by kernel_rfl) (by kernel_rfl) rfl (by rfl) ?yac4 ?rac4
    case yac4 =>
      intro w'
      go_simp
      try with_reducible rfl
    case rac4 =>
    simp only [Act.put, List.setIfInBounds_toArray, List.set_cons_zero, List.set_cons_succ]
    refine RgN.n_takeW 4 ?vac5 (by simp only [List.getElem?_toArray, List.getElem?_cons_zero, List.getElem?_cons_succ]; exact rfl) (by kernel_rfl) (by kernel_rfl) (by kernel_rfl) rfl (by rfl) ?yac5 ?rac5
    case yac5 =>
      intro w'
      go_simp
      try with_reducible rfl
    case rac5 =>
    simp only [Act.put, List.setIfInBounds_toArray, List.set_cons_zero, List.set_cons_succ]
    refine RgN.n_takeW 5 ?vac6 (by simp only [List.getElem?_toArray, List.getElem?_cons_zero, List.getElem?_cons_succ]; exact rfl) (by kernel_rfl) (by kernel_rfl) (by kernel_rfl) rfl (by rfl) ?yac6 ?rac6
    case yac6 =>
      intro w'
      go_simp
      try with_reducible rfl
    case rac6 =>
    simp only [Act.put, List.setIfInBounds_toArray, List.set_cons_zero, List.set_cons_succ]
    refine RgN.n_takeW 6 ?vac7 (by simp only [List.getElem?_toArray, List.getElem?_cons_zero, List.getElem?_cons_succ]; exact rfl) (by kernel_rfl) (by kernel_rfl) (by kernel_rfl) rfl (by rfl) ?yac7 ?rac7
    case yac7 =>
      intro w'
      go_simp
      try with_reducible rfl
    case rac7 =>
    simp only [Act.put, List.setIfInBounds_toArray, List.set_cons_zero, List.set_cons_succ]
    refine RgN.n_takeW 7 ?vac8 (by simp only [List.getElem?_toArray, List.getElem?_cons_zero, List.getElem?_cons_succ]; exact rfl) (by kernel_rfl) (by kernel_rfl) (by kernel_rfl) rfl (by rfl) ?yac8 ?rac8
    case yac8 =>
      intro w'
      go_simp
      try with_reducible rfl
    case rac8 =>
    simp only [Act.put, List.setIfInBounds_toArray, List.set_cons_zero, List.set_cons_succ]
    refine RgN.n_one 8 (by kernel_rfl) (by simp only [List.getElem?_toArray, List.getElem?_cons_zero, List.getElem?_cons_succ]; exact rfl) (fun K hK => ?_)
    go_simp
    refine hK.out _ _ (fun h => by cases h) ?_
    clear hK K
    try simp only [Act.put, List.setIfInBounds_toArray, List.set_cons_zero, List.set_cons_succ]
    refine RgN.n_one 9 (by kernel_rfl) (by simp only [List.getElem?_toArray, List.getElem?_cons_zero, List.getElem?_cons_succ]; exact rfl) (fun K hK => ?_)
    go_simp
    refine hK.out _ _ (fun h => by cases h) ?_
    clear hK K
    try simp only [Act.put, List.setIfInBounds_toArray, List.set_cons_zero, List.set_cons_succ]
    refine RgN.n_one 10 (by kernel_rfl) (by simp only [List.getElem?_toArray, List.getElem?_cons_zero, List.getElem?_cons_succ]; exact rfl) (fun K hK => ?_)
    go_simp
    refine hK.out _ _ (fun h => by cases h) ?_
    clear hK K
    try simp only [Act.put, List.setIfInBounds_toArray, List.set_cons_zero, List.set_cons_succ]
    refine RgN.n_done (by kernel_rfl) ?_ _
    go_wp2_with fail
    go_ret
    exact hfin'.out
end Pa
end Go.Proofs.YtkknenmpdimdbaaGreatDoor
