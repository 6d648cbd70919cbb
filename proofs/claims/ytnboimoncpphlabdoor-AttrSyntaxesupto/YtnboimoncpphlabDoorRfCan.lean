import Derived.Test.YtnboimoncpphlabDoorAtRefRow
import Derived.Test.YtnboimoncpphlabDoorAtOrdM
import Derived.Test.YtnboimoncpphlabDoorAtEqS
namespace Go.Proofs.YtnboimoncpphlabDoor
open Go.RowKit
open TextMath (fold lo)
set_option linter.unusedVariables false

def KndTab (W : World) : Prop := ∀ i c, i < 62 → c < 3 → W.cell? ⟨2, i * 3 + c, none⟩ = some (.int .i64 ((KND.getD i []).getD c 0))
theorem KndTab.below {w w' : World} (h : KndTab w) (hb : Below w.heap.size w w') : KndTab w' := fun i c hi hc => by
  rw [hb.cell (World.block_lt_of_cell? w _ (h i c hi hc))]; exact h i c hi hc
set_option maxRecDepth 100000 in
set_option maxHeartbeats 1000000 in
theorem canonR_any (s : ByteArray) (w : World) (hs : s.size ≤ 140737488355328) :
    Calls Tryd.prog 56 #[.string s] w fun e w' => e = .returned (.string (canN (S (fold s.data.toList)))) ∧ Below w.heap.size w w' := by
  have hR := refRow_any s w hs
  have hF : ∀ W, Hid (Calls Tryd.prog 40 #[.string s] W fun e w' => e = .returned (.string (S (fold s.data.toList))) ∧ Below W.heap.size W w') := fun W => rFold_any s W hs
  generalize S (fold s.data.toList) = f at *
  go_enter Tryd.func56, Tryd.ntmps56
  go_wp2_with fail
  refine hR.mono ?_
  rintro e W1 ⟨rfl, hb1⟩
  have o1 : Hid (Below w.heap.size w W1) := hb1
  clear hR hb1
  cases hr : rowOf f with
  | none =>
    have hn : rowN f = -1 := by unfold rowN; rw [hr]
    have hc : Hid (canN f = f) := by unfold Hid canN; rw [hr]
    rw [hn]
    have hF1 := hF W1
    clear hn hr hF
    go_wp2_with fail
    refine hF1.out.mono ?_
    rintro e W2 ⟨rfl, hb2⟩
    have o2 : Hid (Below w.heap.size w W2) := o1.out.trans (hb2.mono o1.out.size)
    clear hF1 hb2
    go_wp2_with fail
    go_ret
    exact ⟨by rw [hc.out]; rfl, o2.out⟩
  | some i =>
    have hn : rowN f = (i.1 : Int) := by unfold rowN; rw [hr]
    have hc : Hid (canN f = (rowL i).1) := by unfold Hid canN; rw [hr]
    rw [hn]
    have i0 : (0 : Int) ≤ (i.1 : Int) := Int.natCast_nonneg _
    have i1 : (i.1 : Int) < 62 := by have := i.2; omega
    have i2 : ¬ (i.1 : Int) < 0 := by omega
    have hN := names_q W1
    clear hn hr hF
    go_wp2_with fail
    refine hN.mono ?_
    rintro e W2 ⟨cs, rfl, hcs, hcz, hco, hb2⟩
    have st := st_nams W2 cs hcz hco
    obtain ⟨W3, hW3⟩ : ∃ W3, W2.alloc (.cells cs 81) = W3 := ⟨_, rfl⟩
    rw [hW3] at st
    have hB3 : Hid (Below w.heap.size w W3) := by
      have h : Below W1.heap.size W1 W3 := by rw [← hW3]; exact hb2.alloc hb2.size _
      exact o1.out.trans (h.mono o1.out.size)
    have hn3 : Nams W3 W2.heap.size := by unfold Nams; rw [hcs.out, ← hW3]; exact heap_alloc_last W2 _
    obtain ⟨c0, c1, c2⟩ := hn3.cells i
    clear hN hb2 hco hW3
    go_wp2_with fail
    go_ret
    exact ⟨by rw [hc.out]; rfl, hB3.out⟩
theorem lr_step : ∀ n : Fin 62, lr n.val = nmN n.val :: (if upN n.val = 0 then [] else lr (upN n.val)) := by decide +kernel
theorem up_ltR : ∀ n : Fin 62, upN n.val < 62 := by decide +kernel
theorem lr_len4 : ∀ n : Fin 62, (lr n.val).length ≤ 4 := by decide +kernel
theorem knd_up : ∀ n : Fin 62, (KND.getD n.val []).getD 0 0 = if upN n.val = 0 then -1 else (upN n.val : Int) := by decide +kernel
theorem nm_S (i : Fin 62) : S (nmN i.val) = (rowL i).1 := by
  unfold nmN
  rw [dif_pos i.2, S_of]
/-- A row of texts, as an answer. -/
def LinQ (W : World) (l : List (List UInt8)) (e : Ending) : Prop := ∃ a c, e = .returned (.slice a l.length c) ∧ Row W a l
def restR (z : Int) : List (List UInt8) := if z < 0 then [] else lr z.toNat
set_option maxRecDepth 100000 in
set_option maxHeartbeats 2000000 in
theorem supersR_any (s : ByteArray) (w : World) (hs : s.size ≤ 140737488355328) (hK : KndTab w) :
    Calls Tryd.prog 23 #[.string s] w fun e w' => LinQ w' (lin (S (fold s.data.toList))) e ∧ Below w.heap.size w w' := by
  have hR := refRow_any s w hs
  have hF : ∀ W, Hid (Calls Tryd.prog 40 #[.string s] W fun e w' => e = .returned (.string (S (fold s.data.toList))) ∧ Below W.heap.size W w') := fun W => rFold_any s W hs
  have hK' : Hid (KndTab w) := hK
  generalize S (fold s.data.toList) = f at *
  clear hK
  go_enter Tryd.func23, Tryd.ntmps23
  go_wp2_with fail
  refine hR.mono ?_
  rintro e W1 ⟨rfl, hb1⟩
  have o1 : Hid (Below w.heap.size w W1) := hb1
  clear hR hb1
  cases hr : rowOf f with
  | none =>
    have hn : rowN f = -1 := by unfold rowN; rw [hr]
    have hc : Hid (lin f = [f.data.toList]) := (lin_none f hr).1
    rw [hn]
    have hF1 := hF W1
    clear hn hr hF
    go_wp2_with fail
    refine hF1.out.mono ?_
    rintro e W2 ⟨rfl, hb2⟩
    have o2 : Hid (Below w.heap.size w W2) := o1.out.trans (hb2.mono o1.out.size)
    clear hF1 hb2
    go_wp2_with fail
    go_ret
    refine ⟨⟨some ⟨W2.heap.size, 0, none⟩, 1, by rw [hc.out]; rfl, ?_⟩, o2.out.alloc o2.out.size _⟩
    rw [hc.out]
    intro i hi
    have hi0 : i = 0 := by simp at hi; omega
    subst hi0
    refine ⟨W2.heap.size, 0, rfl, ?_⟩
    rw [(row_cell (heap_alloc_last W2 (.cells #[.string f] 9)) (j := 0) (by simp)).1]
    simp [S_of]
  | some i =>
    have hn : rowN f = (i.1 : Int) := by unfold rowN; rw [hr]
    have hc : Hid (lin f = lr i.val) := (lin_row f i hr).1
    rw [hn]
    have i0 : (0 : Int) ≤ (i.1 : Int) := Int.natCast_nonneg _
    have i1 : (i.1 : Int) < 62 := by have := i.2; omega
    have i2 : ¬ (i.1 : Int) < 0 := by omega
    have hN := names_q W1
    clear hn hr hF
    go_wp2_with fail
    refine hN.mono ?_
    rintro e W2 ⟨cs, rfl, hcs, hcz, hco, hb2⟩
    have st := st_nams W2 cs hcz hco
    obtain ⟨W3, hW3⟩ : ∃ W3, W2.alloc (.cells cs 81) = W3 := ⟨_, rfl⟩
    rw [hW3] at st
    have hB3 : Hid (Below w.heap.size w W3) := by
      have h : Below W1.heap.size W1 W3 := by rw [← hW3]; exact hb2.alloc hb2.size _
      exact o1.out.trans (h.mono o1.out.size)
    have hn3 : Hid (Nams W3 W2.heap.size) := by unfold Hid Nams; rw [hcs.out, ← hW3]; exact heap_alloc_last W2 _
    clear hN hb2 hco hW3 i0 i1 i2
    go_wp2_with fail
    go_loopw [3, 4] (fun iv lv wr => ∃ (z : Int) (ms : List (List UInt8)), iv = .int .i64 z ∧ (∃ oa ol oc, lv = .slice oa ol oc ∧ OwnS wr W3.heap.size (.slice oa ol oc) ms) ∧ Below W3.heap.size W3 wr ∧ Hid (-1 ≤ z ∧ z < 62 ∧ lin f = ms ++ restR z ∧ ms.length ≤ 4)) (fun iv _ _ => (restR (intOf iv)).length)
    case atStart =>
      refine ⟨(i.1 : Int), [], rfl, ⟨none, 0, 0, rfl, ownS_nil _ _⟩, Below.refl _ _, ?_⟩
      have := i.2
      refine ⟨by omega, by omega, ?_, by simp⟩
      rw [hc.out, List.nil_append]
      unfold restR
      rw [if_neg (by omega)]
      rfl
    case round =>
      obtain ⟨z, ms, rfl, ⟨oa, ol, oc, rfl, hown0⟩, hB0, hz⟩ := hrel
      have hown : Hid (OwnS wr W3.heap.size (.slice oa ol oc) ms) := hown0
      have hB : Hid (Below W3.heap.size W3 wr) := hB0
      have hsz : W3.heap.size ≤ wr.heap.size := hB0.size
      clear hown0 hB0 st hcz
      by_cases hneg : z < 0
      · have h1 : ¬ (0 : Int) ≤ z := by omega
        have hfin : Hid (lin f = ms) := by
          unfold Hid
          rw [hz.out.2.2.1]
          unfold restR
          rw [if_pos hneg, List.append_nil]
        obtain ⟨va, vc, he, hrow⟩ := ownS_trow hown.out
        have hrow' : Hid (TRow wr va ms) := hrow
        have oB : Hid (Below w.heap.size w wr) := hB3.out.trans (hB.out.mono hB3.out.size)
        injection he with he1 he2 he3
        subst he1 he2 he3
        clear hrow hz
        go_wp2_with fail
        go_ret
        refine ⟨⟨oa, oc, by rw [hfin.out]; rfl, ?_⟩, oB.out⟩
        rw [hfin.out]
        exact TRow.row hrow'.out
      · obtain ⟨n, rfl⟩ : ∃ n : Nat, z = (n : Int) := ⟨z.toNat, by omega⟩
        have hn62 : n < 62 := by have := hz.out.2.1; omega
        obtain ⟨c0, c1, c2⟩ := (show Nams wr W2.heap.size from (hB.out.block _ (Array.getElem?_eq_some_iff.1 hn3.out).1).trans hn3.out).cells ⟨n, hn62⟩
        have hkn := (hK'.out.below (hB3.out.trans (hB.out.mono hB3.out.size))) n 0 hn62 (by omega)
        rw [knd_up ⟨n, hn62⟩] at hkn
        rw [← nm_S ⟨n, hn62⟩] at c0
        obtain ⟨nz, hnz⟩ : ∃ x : Int, (if upN n = 0 then -1 else (upN n : Int)) = x := ⟨_, rfl⟩
        have hkn' : wr.cell? ⟨2, n * 3 + 0, none⟩ = some (.int .i64 nz) := by rw [← hnz]; exact hkn
        have hst : Hid (lr n = nmN n :: restR nz ∧ -1 ≤ nz ∧ nz < 62) := by
          have h1 := lr_step ⟨n, hn62⟩
          have h2 := up_ltR ⟨n, hn62⟩
          simp only at h1 h2
          unfold Hid restR
          rw [h1, ← hnz]
          by_cases q : upN n = 0
          · rw [if_pos q, if_pos q]; exact ⟨rfl, by decide, by decide⟩
          · rw [if_neg q, if_neg q, if_neg (by omega)]
            exact ⟨rfl, by omega, by omega⟩
        have hre : Hid (restR (n : Int) = nmN n :: restR nz) := by
          unfold Hid
          rw [← hst.out.1]
          unfold restR
          rw [if_neg (by omega)]
          rfl
        have hlen : Hid (ms.length ≤ 3) := by
          have h1 := congrArg List.length hz.out.2.2.1
          rw [hc.out, hre.out, List.length_append, List.length_cons] at h1
          have h2 := lr_len4 i
          unfold Hid
          omega
        have n0 : (0 : Int) ≤ (n : Int) := Int.natCast_nonneg _
        have n1 : (n : Int) < 62 := by omega
        have hnx : Hid (lin f = (ms ++ [nmN n]) ++ restR nz) := by unfold Hid; rw [hz.out.2.2.1, hre.out]; simp
        have hl3 : Hid (ms.length ≤ 4194304) := by have := hlen.out; unfold Hid; omega
        obtain ⟨M, hM⟩ : ∃ M, S (nmN n) = M := ⟨_, rfl⟩
        have hM' : Hid (S (nmN n) = M) := hM
        simp only at c0
        rw [hM] at c0
        have hbk : Hid (wr.cell? ⟨2, n * 3 + 0, none⟩ = some (.int .i64 nz)) := hkn'
        have hgl : Hid (2 < W3.heap.size) := by
          have h1 : 2 < w.heap.size := World.block_lt_of_cell? w _ (hK'.out 0 0 (by omega) (by omega))
          have := hB3.out.size
          unfold Hid
          omega
        clear hkn hkn' hnz hM hz hneg c1 c2 hn62
        go_wp2_with (at_builtin; refine push_text _ rfl _ _ rfl W3.heap.size _ ms (nmN n) _ rfl rfl ?_ ?_ ?_ hl3.out ?_; (exact World.ownsRow.alloc hown.out _); (rw [hM'.out]; exact heap_alloc_new _ _); (simp; omega); intro g6 cap6 w6 hown6 hgr6 hlie6 hb6; have hk6 : w6.cell? ⟨2, n * 3, none⟩ = some (.int .i64 nz) := (by rw [hb6.cell (show 2 < W3.heap.size from hgl.out), World.cell?_alloc_past _ _ _ (Nat.lt_of_lt_of_le hgl.out hsz)]; exact hbk.out))
        refine ⟨⟨nz, ms ++ [nmN n], rfl, ⟨_, _, _, rfl, hown6⟩, (hB.out.alloc hsz _).trans hb6, hst.out.2.1, hst.out.2.2, hnx.out, by rw [List.length_append]; have := hlen.out; simp; omega⟩, ?_⟩
        simp only [intOf]
        rw [hre.out, List.length_cons]
        omega
end Go.Proofs.YtnboimoncpphlabDoor
