import Derived.Test.YtkknenmpdimdbaaGreatDoorFW34
import Derived.BigQuiet
import Derived.Deep.RegionHeld3
import Derived.Deep.RegionHeldLaw
import Derived.Test.YtkknenmpdimdbaaGreatDoorFW19
import Derived.Test.YtkknenmpdimdbaaGreatDoorFW8
import Derived.Test.YtkknenmpdimdbaaGreatDoorFW15
import Derived.Test.YtkknenmpdimdbaaGreatDoorFW21
namespace Go.Proofs.YtkknenmpdimdbaaGreatDoor
open Go.RowKit BnI
open BerMath (Hd HR num hAt wAt El TR elEnd endE one andThen kids)
set_option linter.unusedVariables false
namespace BrM
theorem pv_at (l : List El) (i : Nat) (hi : i < l.length) (j : Nat) (hj : j < 6) : (pv l)[i * 6 + j]? = (plV l[i])[j]? := by
 induction l generalizing i with
 | nil => simp at hi
 | cons x l ih =>
  cases i with
  | zero =>
   show (plV x ++ pv l)[0 * 6 + j]? = _
   rw [List.getElem?_append_left (by simp [plV]; omega)]
   simp
  | succ i =>
   show (plV x ++ pv l)[(i + 1) * 6 + j]? = _
   have e : (i + 1) * 6 + j = (plV x).length + (i * 6 + j) := by simp [plV]; omega
   rw [e, List.getElem?_append_right (by omega), Nat.add_sub_cancel_left, ih i (by simpa using hi)]
   rfl
theorem w_up1 (i : Nat) (h : i ≤ 281474976710656) : wrap64 ((i : Int) + 1) = (i : Int) + 1 := by unfold wrap64; omega
theorem meas_up (k i : Nat) (h : i < k) : k - (intOf (.int .i64 ((i : Int) + 1))).toNat < k - (intOf (.int .i64 (i : Int))).toNat := by
 simp [intOf]
 omega
def PRow (w : World) (a : Option Addr) (l : List El) : Prop := ∀ i (hi : i < l.length), ∃ b, a = some ⟨b, 0, none⟩ ∧ ∀ j v, (plV l[i])[j]? = some v → w.cell? ⟨b, i * 6 + j, none⟩ = some v
theorem ownP_any {w : World} {B : Nat} {v : Value} {l : List El} (h : OwnP w B v l) : ∃ a c, v = .slice a l.length c ∧ PRow w a l := by
 have h0 := h
 rcases h.2 with ⟨rfl, hn⟩ | ⟨g, cap, cur, rfl, _⟩
 ·have hl : l = [] := List.eq_nil_of_length_eq_zero hn
  subst hl
  exact ⟨none, 0, rfl, fun i hi => by simp at hi⟩
 ·refine ⟨_, _, rfl, fun i hi => ⟨g, rfl, fun j u hj => ?_⟩⟩
  have hj6 : j < 6 := by
   rcases Nat.lt_or_ge j 6 with q | q
   ·exact q
   ·rw [List.getElem?_eq_none (by simp [plV]; omega)] at hj; cases hj
  have hc := World.ownsRow.cellAt (show w.ownsRow B 207 6 _ l.length (pv l) from h0) (i * 6 + j) (by omega)
  rw [hc, pv_at l i hi j hj6]
  exact hj
theorem PRow.below {w w' : World} {a : Option Addr} {l : List El} (h : PRow w a l) (hb : Below w.heap.size w w') : PRow w' a l := fun i hi => by
 obtain ⟨b, e, hc⟩ := h i hi
 refine ⟨b, e, fun j v hv => ?_⟩
 have h1 := hc j v hv
 rw [hb.cell (World.block_lt_of_cell? w _ h1)]
 exact h1
set_option maxRecDepth 100000 in
set_option maxHeartbeats 4000000 in
theorem rtree_any (s : ByteArray) (w : World) (hm : s.size ≤ 140737488355328) :
  Calls Tryz.prog 97 #[.string s] w fun r w' => treeQ s w.heap.size r w' ∧ Below w.heap.size w w' := by
 have hW : Hid (Calls Tryz.prog 137 #[.string s] w fun r w' => WkQ s w.heap.size r w' ∧ Below w.heap.size w w') := rwalk_any s w hm
 have hm' : Hid (s.size ≤ 140737488355328) := hm
 clear hm
 go_enter Tryz.func97, Tryz.ntmps97
 go_wp2_with fail
 refine hW.out.mono ?_
 rintro r w1 ⟨⟨lv, dv, c, q, rfl, hP, hI, hres⟩, hb1⟩
 have HB1 : Hid (Below w.heap.size w w1) := hb1
 clear hb1 hW
 rcases hres with ⟨f, hf, rfl, rfl⟩ | ⟨hf, rfl, rfl⟩
 ·have hc := tr_code s f hf
  have HQ : Hid (treeQ s w.heap.size (.returned (.tuple #[.slice none 0 0, .int .i64 (f.1 : Int), .int .i64 (f.2 : Int)])) w1 ∧ Below w.heap.size w w1) := ⟨Or.inr ⟨f, by unfold treeR; rw [hf], rfl⟩, HB1.out⟩
  have r1 : ((f.1 : Int) == 0) = false := by rw [beq_eq_false_iff_ne]; omega
  have r2 : ((f.1 : Int) != 0) = true := by rw [bne_iff_ne]; omega
  generalize f.1 = c0 at *
  generalize f.2 = q0 at *
  clear hc hf hP hI HB1 hm'
  go_wp2_with fail
  refine bodyPost_ret_by (v := .tuple #[.slice none 0 0, .int .i64 (c0 : Int), .int .i64 (q0 : Int)]) (by simp [results, Tryz.results97]) rfl HQ.out
 ·by_cases hlt : lastE (tr s).1 < s.size
  ·have HQ : Hid (treeQ s w.heap.size (.returned (.tuple #[.slice none 0 0, .int .i64 27, .int .i64 (lastE (tr s).1 : Int)])) w1 ∧ Below w.heap.size w w1) := ⟨Or.inr ⟨(27, lastE (tr s).1), by unfold treeR; rw [hf]; dsimp only; rw [if_pos hlt], rfl⟩, HB1.out⟩
   have q1 : (lastE (tr s).1 : Int) < (s.size : Int) := Int.ofNat_lt.2 hlt
   generalize lastE (tr s).1 = q0 at *
   clear hlt hf hP hI HB1 hm'
   go_wp2_with fail
   refine bodyPost_ret_by (v := .tuple #[.slice none 0 0, .int .i64 27, .int .i64 (q0 : Int)]) (by simp [results, Tryz.results97]) rfl HQ.out
  ·have HR : Hid (treeR s = .ok (tr s).1) := by unfold Hid treeR; rw [hf]; dsimp only; rw [if_neg hlt]
   have q1 : ¬ lastE (tr s).1 < s.size := hlt
   obtain ⟨hl1, hl2⟩ := tr_len s
   obtain ⟨la, lc, rfl, hrow⟩ := ownP_any hP
   obtain ⟨da, dn, dc, rfl⟩ := ownI_slice hI
   obtain ⟨hdr, hdn⟩ := ownI_row hI
   rw [deps_len] at hdn
   have hdr : NRow w1 da (deps (tr s).1) := hdr
   generalize lastE (tr s).1 = q0 at *
   generalize (tr s).1 = l at *
   obtain ⟨n, hn⟩ : ∃ n, n = l.length := ⟨_, rfl⟩
   rw [← hn] at hl1 hdn ⊢
   have hdn' := hdn.symm
   clear hdn
   subst hdn'
   have HG : Hid (PRow w1 la l ∧ NRow w1 da (deps l) ∧ n = l.length ∧ n ≤ 2147483650 ∧ ∀ x ∈ l, elEnd x ≤ s.size ∧ 2 ≤ x.2.1.size ∧ x.2.1.size ≤ 6 ∧ x.2.1.len < 4294967296 ∧ x.2.1.cls ≤ 3 ∧ x.2.1.tag ≤ 30 ∧ x.2.2 ≤ 64) := ⟨hrow, hdr, hn, hl1, hl2⟩
   clear hrow hdr hl1 hl2 hP hI hf hlt hn
   go_wp2_with fail
   go_loopw [9, 10] (fun ov iv wr => ∃ (i : Nat) (vo : Value), ov = vo ∧ iv = .int .i64 (i : Int) ∧ i ≤ n ∧ Hid (OwnN wr w1.heap.size vo ((l.take i).map (ndOf s)) ∧ Below w1.heap.size w1 wr)) (fun _ iv _ => n - (intOf iv).toNat)
   case atStart => exact ⟨0, _, rfl, rfl, Nat.zero_le _, ownN_nil _ _, Below.refl _ _⟩
   case round =>
    obtain ⟨i, vo, hvo, rfl, hi, HO⟩ := hrel
    have hvo' := hvo.symm
    clear hvo
    subst hvo'
    have i0 : (0 : Int) ≤ (i : Int) := Int.natCast_nonneg _
    by_cases hlt : i < n
    ·have i1 : (i : Int) < (n : Int) := Int.ofNat_lt.2 hlt
     have hil : i < l.length := by rw [← HG.out.2.2.1]; exact hlt
     obtain ⟨b, rfl, hc⟩ := (HG.out.1.below HO.out.2) i hil
     obtain ⟨db, dof, rfl, hdc⟩ := (HG.out.2.1.below HO.out.2) i (by rw [deps_len]; exact hil)
     have hx := HG.out.2.2.2.2 l[i] (List.getElem_mem hil)
     have htk : Hid ((l.take (i + 1)).map (ndOf s) = (l.take i).map (ndOf s) ++ [ndOf s l[i]]) := by
      unfold Hid
      rw [List.take_succ_eq_append_getElem hil, List.map_append]
      rfl
     have hdv : (deps l)[i]'(by rw [deps_len]; exact hil) = (l[i].2.2 : Int) := by simp [deps]
     rw [hdv] at hdc
     generalize l[i] = X at *
     obtain ⟨p, h, d⟩ := X
     have c0 := hc 0 _ rfl
     have c1 := hc 1 _ rfl
     have c2 := hc 2 _ rfl
     have c3 := hc 3 _ rfl
     have c4 := hc 4 _ rfl
     have c5 := hc 5 _ rfl
     dsimp only at c0 c1 c2 c3 c4 c5 hdc hx
     rw [Nat.add_zero] at c0
     have hlt' : Hid (i < n) := hlt
     have hx' : Hid (elEnd (p, h, d) ≤ s.size ∧ h.size ≤ 6 ∧ h.len < 4294967296) := ⟨hx.1, hx.2.2.1, hx.2.2.2.1⟩
     clear hx hc hil hdv hlt hi
     go_upto_region 11 with fail
     obtain ⟨gh, hgh0⟩ : ∃ gh, wr.heap.size = gh := ⟨_, rfl⟩
     obtain ⟨W1, hW1⟩ : ∃ W1, wr.alloc (.cells #[.int .i64 (h.cls : Int), .bool h.made, .int .i64 (h.tag : Int), .int .i64 (h.len : Int), .int .i64 (h.size : Int)] 205) = W1 := ⟨_, rfl⟩
     have hgh : W1.heap[gh]? = some (.cells #[.int .i64 (h.cls : Int), .bool h.made, .int .i64 (h.tag : Int), .int .i64 (h.len : Int), .int .i64 (h.size : Int)] 205 (0, 0)) := by rw [← hW1, ← hgh0]; exact heap_alloc_new _ _
     have hd1 : W1.cell? ⟨db, dof + i, none⟩ = some (.int .i64 (d : Int)) := by rw [← hW1, World.cell?_alloc_past _ _ _ (World.block_lt_of_cell? wr _ hdc)]; exact hdc
     have hp1 : W1.cell? ⟨b, i * 6, none⟩ = some (.int .i64 (p : Int)) := by rw [← hW1, World.cell?_alloc_past _ _ _ (World.block_lt_of_cell? wr _ c0)]; exact c0
     have HO1 : Hid (OwnN W1 w1.heap.size vo ((l.take i).map (ndOf s)) ∧ Below w1.heap.size w1 W1) := ⟨by rw [← hW1]; exact World.ownsRow.alloc HO.out.1 _, by rw [← hW1]; exact HO.out.2.alloc HO.out.2.size _⟩
     have b0 := hdcell hgh 0 _ rfl
     have b1 := hdcell hgh 1 _ rfl
     have b2 := hdcell hgh 2 _ rfl
     rw [hW1, hgh0]
     clear hW1 hgh0 c0 c1 c2 c3 c4 c5 hdc HO
     go_region_held3 (fun w' => w'.cell? ⟨gh, 0, none⟩ = some (.int .i64 (h.cls : Int)) ∧ w'.cell? ⟨gh, 1, none⟩ = some (.bool h.made) ∧ w'.cell? ⟨gh, 2, none⟩ = some (.int .i64 (h.tag : Int)) ∧ w'.cell? ⟨db, dof + i, none⟩ = some (.int .i64 (d : Int)))
      (first | exact ⟨b0, b1, b2, hd1⟩ | go_keep)
      (first | (fail))
     obtain ⟨gn, hgn⟩ : ∃ gn, W1.heap.size = gn := ⟨_, rfl⟩
     obtain ⟨W2, hW2⟩ : ∃ W2, (W1.alloc (.cells #[.int .i64 (d : Int), .int .i64 (h.cls : Int), .bool h.made, .int .i64 (h.tag : Int), .string ⟨#[]⟩] 153)).drew = W2 := ⟨_, rfl⟩
     have hn2 : W2.heap[gn]? = some (.cells #[.int .i64 (d : Int), .int .i64 (h.cls : Int), .bool h.made, .int .i64 (h.tag : Int), .string ⟨#[]⟩] 153 (0, 0)) := by rw [← hW2, ← hgn]; exact heap_alloc_new _ _
     have hbel : Below W1.heap.size W1 W2 := by rw [← hW2]; exact ((Below.refl _ _).alloc (Nat.le_refl _) _).drew
     have hs2 : W2.heap.size = gn + 1 := by rw [← hW2, ← hgn]; simp
     have hgl : gh < W1.heap.size := (Array.getElem?_eq_some_iff.1 hgh).1
     have hgh2 : W2.heap[gh]? = some (.cells #[.int .i64 (h.cls : Int), .bool h.made, .int .i64 (h.tag : Int), .int .i64 (h.len : Int), .int .i64 (h.size : Int)] 205 (0, 0)) := by rw [hbel.block gh hgl]; exact hgh
     have hp2 : W2.cell? ⟨b, i * 6, none⟩ = some (.int .i64 (p : Int)) := by rw [hbel.cell (World.block_lt_of_cell? W1 _ hp1)]; exact hp1
     have m1 := hdcell hgh2 1 (.bool h.made) rfl
     have m3 := hdcell hgh2 3 (.int .i64 (h.len : Int)) rfl
     have m4 := hdcell hgh2 4 (.int .i64 (h.size : Int)) rfl
     have n0 := hdcell hn2 0 (.int .i64 (d : Int)) rfl
     have n1 := hdcell hn2 1 (.int .i64 (h.cls : Int)) rfl
     have n2 := hdcell hn2 2 (.bool h.made) rfl
     have n3 := hdcell hn2 3 (.int .i64 (h.tag : Int)) rfl
     have n4 := hdcell hn2 4 (.string ⟨#[]⟩) rfl
     have f4 : W2.frozen? ⟨gn, 4, none⟩ = false := by simp [World.frozen?, hn2]
     have HO2 : Hid (OwnN W2 w1.heap.size vo ((l.take i).map (ndOf s)) ∧ Below w1.heap.size w1 W2) := ⟨ownN_below HO1.out.1 hbel, HO1.out.2.trans (hbel.mono HO1.out.2.size)⟩
     have hln : Hid (((l.take i).map (ndOf s)).length ≤ 4294967296) := by
      unfold Hid
      rw [List.length_map, List.length_take]
      have := HG.out.2.2.1
      have := HG.out.2.2.2.1
      omega
     have hkw : Hid (wrap64 ((i : Int) + 1) = (i : Int) + 1) := by
      have h1 := HG.out.2.2.2.1
      have h2 := hlt'.out
      exact w_up1 i (by omega)
     have hBs : Hid (w1.heap.size ≤ W2.heap.size) := HO2.out.2.size
     have hbn : Hid (w1.heap.size ≤ gn) := by unfold Hid; rw [← hgn]; exact HO1.out.2.size
     have hob : Hid (∀ g, vo.ownBlock = some g → g < gn) := fun g hg => by rw [← hgn]; exact (World.ownsRow.lt HO1.out.1 _ hg).2
     have hgl2 : Hid (gh < gn) := by unfold Hid; rw [← hgn]; exact hgl
     rw [hW2, hgn]
     clear hgh hd1 hp1 b0 b1 b2 HO1 hW2 hgn hbel hgl hgh2
     cases hmd : h.made with
     | true =>
      rw [hmd] at m1 n2
      have hnd : Hid (ndOf s (p, h, d) = ⟨(d : Int), (h.cls : Int), true, (h.tag : Int), ⟨#[]⟩⟩) := by unfold Hid ndOf; simp only [hmd, if_true]
      obtain ⟨g5, c5, w5, e5, o5, gr5⟩ := appendN_one (W2.alloc (.cells #[.int .i64 (d : Int), .int .i64 (h.cls : Int), .bool true, .int .i64 (h.tag : Int), .string ⟨#[]⟩] 153)) w1.heap.size vo ((l.take i).map (ndOf s)) ⟨(d : Int), (h.cls : Int), true, (h.tag : Int), ⟨#[]⟩⟩ W2.heap.size (World.ownsRow.alloc HO2.out.1 _) (heap_alloc_new _ _) (by have := hBs.out; simp; omega) hln.out
      have hfin : Hid (OwnN w5 w1.heap.size (.slice (some ⟨g5, 0, none⟩) (((l.take i).map (ndOf s)).length + 1) c5) ((l.take (i + 1)).map (ndOf s)) ∧ Below w1.heap.size w1 w5) := ⟨by rw [htk.out, hnd.out]; exact o5, HO2.out.2.trans (((Below.refl _ _).alloc hBs.out _).grown gr5 (by have := hBs.out; simp; omega) (fun j hj => (World.ownsRow.lt HO2.out.1 _ hj).1))⟩
      obtain ⟨on, hon⟩ : ∃ on, ((l.take i).map (ndOf s)).length + 1 = on := ⟨_, rfl⟩
      rw [hon] at e5 hfin
      clear o5 gr5 htk hnd HO2 hx' hln hn2 hon hs2 hmd m3 m4 hp2 f4 hgl2 hBs hob hbn
      go_wp2_with (at_builtin; refine Lib.wpList_append_run _ rfl _ _ _ _ rfl _ _ rfl rfl _ _ e5 ?_; clear e5)
      go_roundw
      case rel => exact ⟨i + 1, _, rfl, congrArg (Value.int .i64) (by rw [hkw.out]; omega), hlt'.out, hfin⟩
      case measure => rw [hkw.out]; exact meas_up n i hlt'.out
     | false =>
      rw [hmd] at m1 n2 hn2
      obtain ⟨A, hA⟩ : ∃ A, p + h.size = A := ⟨_, rfl⟩
      obtain ⟨Z, hZ⟩ : ∃ Z, A + h.len = Z := ⟨_, rfl⟩
      have hsz := hm'.out
      obtain ⟨y1, y2, y3⟩ := hx'.out
      have y1' : p + h.size + h.len ≤ s.size := y1
      have wAH : Hid (wrap64 ((p : Int) + (h.size : Int)) = (A : Int)) := ww p h.size A hA (by omega)
      have wZH : Hid (wrap64 ((A : Int) + (h.len : Int)) = (Z : Int)) := ww A h.len Z hZ (by omega)
      obtain ⟨X, hX⟩ : ∃ X, s.extract A Z = X := ⟨_, rfl⟩
      have hnd : Hid (ndOf s (p, h, d) = ⟨(d : Int), (h.cls : Int), false, (h.tag : Int), X⟩) := by
       unfold Hid ndOf
       simp only [hmd]
       rw [hA, hZ, hX]
       rfl
      have a0 : (0 : Int) ≤ (A : Int) := Int.natCast_nonneg _
      have a1 : (A : Int) ≤ (Z : Int) := by omega
      have a2 : (Z : Int) ≤ (s.size : Int) := by omega
      have wA := wAH.out
      have wZ := wZH.out
      clear hA hZ hsz y1 y2 y3 y1' wAH wZH hx'
      go_upto_region 13 with fail
      go_quiet (fail)
      go_upto_region 15 with fail
      obtain ⟨W3, hW3⟩ : ∃ W3, (W2.drewN nq).setCell ⟨gn, 4, none⟩ (.string X) = W3 := ⟨_, rfl⟩
      have hb3 : Below gn W2 W3 := by rw [← hW3]; exact (show Below gn W2 (W2.drewN nq) from ⟨rfl, rfl, rfl, Nat.le_refl _, fun _ _ => rfl⟩).setCell (Nat.le_refl _) _
      have hs3 : W3.heap.size = W2.heap.size := by rw [← hW3, World.size_setCell]; rfl
      have x0 : W3.cell? ⟨gn, 0, none⟩ = some (.int .i64 (d : Int)) := by rw [← hW3]; simp [go_sem, n0]
      have x1 : W3.cell? ⟨gn, 1, none⟩ = some (.int .i64 (h.cls : Int)) := by rw [← hW3]; simp [go_sem, n1]
      have x2 : W3.cell? ⟨gn, 2, none⟩ = some (.bool false) := by rw [← hW3]; simp [go_sem, n2]
      have x3 : W3.cell? ⟨gn, 3, none⟩ = some (.int .i64 (h.tag : Int)) := by rw [← hW3]; simp [go_sem, n3]
      have x4 : W3.cell? ⟨gn, 4, none⟩ = some (.string X) := by rw [← hW3]; simp [go_sem, n4]
      have hO3 : OwnN W3 w1.heap.size vo ((l.take i).map (ndOf s)) := ownN_block HO2.out.1 (fun g hg hgl hv => hb3.block g (hob.out g hv))
      have hB3 : Below w1.heap.size w1 W3 := HO2.out.2.trans (hb3.mono (by have := hBs.out; have := hbn.out; omega))
      obtain ⟨g5, c5, w5, e5, o5, gr5⟩ := appendN_one (W3.alloc (.cells #[.int .i64 (d : Int), .int .i64 (h.cls : Int), .bool false, .int .i64 (h.tag : Int), .string X] 153)) w1.heap.size vo ((l.take i).map (ndOf s)) ⟨(d : Int), (h.cls : Int), false, (h.tag : Int), X⟩ W3.heap.size (World.ownsRow.alloc hO3 _) (heap_alloc_new _ _) (by have := hB3.size; simp; omega) hln.out
      have hfin : Hid (OwnN w5 w1.heap.size (.slice (some ⟨g5, 0, none⟩) (((l.take i).map (ndOf s)).length + 1) c5) ((l.take (i + 1)).map (ndOf s)) ∧ Below w1.heap.size w1 w5) := ⟨by rw [htk.out, hnd.out]; exact o5, hB3.trans (((Below.refl _ _).alloc hB3.size _).grown gr5 (by have := hB3.size; simp; omega) (fun j hj => (World.ownsRow.lt hO3 _ hj).1))⟩
      obtain ⟨on, hon⟩ : ∃ on, ((l.take i).map (ndOf s)).length + 1 = on := ⟨_, rfl⟩
      rw [hon] at e5 hfin
      rw [hW3]
      clear o5 gr5 htk hnd HO2 hln hn2 hon hs2 hmd m1 m3 m4 hp2 f4 hgl2 hBs hob hbn hb3 hs3 hO3 hB3 hW3 n0 n1 n2 n3 n4 wA wZ a0 a1 a2 hX
      go_wp2_with (at_builtin; refine Lib.wpList_append_run _ rfl _ _ _ _ rfl _ _ rfl rfl _ _ e5 ?_; clear e5)
      go_roundw
      case rel => exact ⟨i + 1, _, rfl, congrArg (Value.int .i64) (by rw [hkw.out]; omega), hlt'.out, hfin⟩
      case measure => rw [hkw.out]; exact meas_up n i hlt'.out
    ·obtain rfl : i = n := by omega
     have i1 : ¬ (i : Int) < (i : Int) := by omega
     have hfin : Hid (treeQ s w.heap.size (.returned (.tuple #[vo, .int .i64 0, .int .i64 0])) wr ∧ Below w.heap.size w wr) := by
      refine ⟨Or.inl ⟨l, vo, HR.out, rfl, ?_⟩, HB1.out.trans (HO.out.2.mono HB1.out.size)⟩
      have h1 := HO.out.1
      rw [HG.out.2.2.1, List.take_length] at h1
      exact ownN_base h1 HB1.out.size
     clear HO HG HR hlt hi
     go_wp2_with fail
     refine bodyPost_ret_by (v := .tuple #[vo, .int .i64 0, .int .i64 0]) (by simp [results, Tryz.results97]) rfl hfin.out
end BrM
end Go.Proofs.YtkknenmpdimdbaaGreatDoor

namespace Go.Proofs.YtkknenmpdimdbaaGreatDoor
namespace TextMath
end TextMath
end Go.Proofs.YtkknenmpdimdbaaGreatDoor

namespace Go.Proofs.YtkknenmpdimdbaaGreatDoor
open Go.RowKit
open TextMath (dg hex wo unhex pre fold lo)
def DIG : ByteArray := ⟨#[48, 49, 50, 51, 52, 53, 54, 55, 56, 57, 97, 98, 99, 100, 101, 102]⟩
def pos (l : List UInt8) (c : UInt8) : Int := if l.findIdx (· == c) < l.length then (l.findIdx (· == c) : Int) else -1
set_option maxHeartbeats 400000 in
theorem at_any (t : ByteArray) (c : UInt8) (w : World) (hm : t.size ≤ 1048576) :
  Calls Tryz.prog 136 #[.string t, .int .u8 (c.toNat : Int)] w fun e w' => e = .returned (.int .i64 (pos t.data.toList c)) ∧ w = w' := by
 have hL : Hid (t.data.toList.length = t.size) := size_l t
 go_enter Tryz.func136, Tryz.ntmps136
 go_wp2
 go_loop [5] (fun i => ∃ k : Nat, k ≤ t.size ∧ i = .int .i64 k ∧ Hid (∀ j (hj : j < t.data.toList.length), j < k → t.data.toList[j] ≠ c)) (fun i => t.size - (intOf i).toNat)
 case atStart => exact ⟨0, Nat.zero_le _, rfl, fun _ _ h => by omega⟩
 case round =>
  obtain ⟨k, hk, rfl, hn⟩ := hrel
  by_cases hlt : k < t.size
  ·have hkl : k < t.data.toList.length := by rw [hL.out]; exact hlt
   by_cases hc : t[k] = c
   ·have hb : (((t[k].toNat : Nat) : Int) == (c.toNat : Int)) = true := by rw [hc]; simp
    have hp : Hid (((k : Nat) : Int) = pos t.data.toList c) := by
     have hi : t.data.toList.findIdx (· == c) = k := by
      have hle : t.data.toList.findIdx (· == c) ≤ k := by
       rcases Nat.lt_or_ge k (t.data.toList.findIdx (· == c)) with h | h
       ·exfalso; have hf := List.not_of_lt_findIdx h; have hc' : t.data.toList[k] = c := hc; rw [hc'] at hf; simp at hf
       ·exact h
      rcases Nat.lt_or_ge (t.data.toList.findIdx (· == c)) k with h | h
      ·exfalso
       have hil : t.data.toList.findIdx (· == c) < t.data.toList.length := by omega
       exact hn.out _ hil h (by have := List.findIdx_getElem (w := hil); simpa using this)
      ·omega
     unfold Hid pos; rw [hi, if_pos hkl]
    clear hn
    go_wp2
    go_ret
    exact ⟨ret_int hp.out, rfl⟩
   ·have hne : t[k].toNat ≠ c.toNat := fun h => hc (UInt8.toNat_inj.1 h)
    have hb : (((t[k].toNat : Nat) : Int) == (c.toNat : Int)) = false := by simp; omega
    have hn' : Hid (∀ j (hj : j < t.data.toList.length), j < k + 1 → t.data.toList[j] ≠ c) := by
     intro j hj hjk
     by_cases e : j = k
     ·subst e; exact hc
     ·exact hn.out j hj (by omega)
    clear hn hne
    go_wp2
    go_round
    case rel => exact ⟨k + 1, by omega, by go_num, hn'⟩
    case measure => simp [intOf]; omega
  ·have hp : Hid ((-1 : Int) = pos t.data.toList c) := by
    unfold Hid pos
    rw [if_neg]
    intro h
    exact hn.out _ h (by rw [hL.out] at h; omega) (by have := List.findIdx_getElem (w := h); simpa using this)
   go_wp2
   go_ret
   exact ⟨ret_int hp.out, rfl⟩
end Go.Proofs.YtkknenmpdimdbaaGreatDoor

namespace Go.Proofs.YtkknenmpdimdbaaGreatDoor
open Go.RowKit
open TextMath (dg hex wo unhex pre fold lo)
end Go.Proofs.YtkknenmpdimdbaaGreatDoor

namespace Go.Proofs.YtkknenmpdimdbaaGreatDoor
set_option maxRecDepth 100000
open Go.RowKit
open TextMath (dg hex wo unhex pre fold lo)
theorem pos_all : ∀ n : Fin 256, pos DIG.data.toList (lo (UInt8.ofNat n.val)) = (match wo (UInt8.ofNat n.val) with | some x => (x : Int) | none => -1) := by decide +kernel
theorem pos_dig (c : UInt8) : pos DIG.data.toList (lo c) = (match wo c with | some x => (x : Int) | none => -1) := by
 have := pos_all ⟨c.toNat, c.toNat_lt⟩
 simpa using this
set_option maxHeartbeats 1000000 in
theorem rUnhex_any (s : ByteArray) (w : World) (hm : s.size ≤ 4194304) :
  Calls Tryz.prog 96 #[.string s] w fun e w' => e = .returned (uhV s.size (unhex s.data.toList 0)) ∧ Below w.heap.size w w' := by
 have hL : Hid (s.data.toList.length = s.size) := size_l s
 obtain ⟨i0, hi, hz0, hz1, hz2⟩ := info_parts info_u8
 have hcall : Hid (Calls Tryz.prog 77 #[.string s] w fun e w' => e = .returned (.string (S (fold s.data.toList))) ∧ Below w.heap.size w w') := rFold_any s w (by omega)
 have hTs : (S (fold s.data.toList)).size = s.size := by rw [S_size, fold_len, size_l]
 have hTg : Hid (∀ k (h : k < (S (fold s.data.toList)).size) (h' : k < s.size), (S (fold s.data.toList))[k] = lo s[k]) := by
  intro k h h'
  have h2 : k < (fold s.data.toList).length := by rw [S_size] at h; exact h
  show (fold s.data.toList).toArray[k] = _
  simp [fold]
  rfl
 have hat : ∀ (c : UInt8) (W : World), Hid (Calls Tryz.prog 136 #[.string DIG, .int .u8 ((lo c).toNat : Int)] W fun e w' => e = .returned (.int .i64 (match wo c with | some x => (x : Int) | none => -1)) ∧ W = w') := fun c W => by
  have h := at_any DIG (lo c) W (by decide)
  rw [pos_dig] at h; exact h
 unfold DIG at hat
 generalize S (fold s.data.toList) = T at *
 have HT : Hid (T.size = s.size) := hTs
 have hT1 : T.size ≤ s.size := by omega
 have hT2 : s.size ≤ T.size := by omega
 clear hTs
 go_enter Tryz.func96, Tryz.ntmps96
 go_wp2_with (go_at_call 77; refine hcall.out.mono ?_; rintro e w1 ⟨rfl, hb1⟩)
 go_loopw [6, 7, 8] (fun out high i wr => ∃ (k x : Nat) (o : List UInt8), k ≤ s.size ∧ i = .int .i64 k ∧ x < 16 ∧ high = .int .i64 (x : Int) ∧ Below w.heap.size w wr ∧ wr.ownsRow w.heap.size 5 1 out (k / 2) (bv o)
   ∧ Hid (unhex s.data.toList 0 = pre o (unhex (s.data.toList.drop (k - k % 2)) (k - k % 2))) ∧ Hid (∀ (h : k - 1 < s.data.toList.length), k % 2 = 1 → wo s.data.toList[k - 1] = some x)) (fun _ _ i _ => s.size - (intOf i).toNat)
 case atStart => exact ⟨0, 0, [], Nat.zero_le _, rfl, by omega, rfl, hb1, World.ownsRow_nil _ _ _ _, by unfold Hid; simp [TextMath.pre_nil], fun _ h => by omega⟩
 case round =>
  obtain ⟨k, x, o, hk, rfl, hx16, rfl, hb, hown, hun, hwx⟩ := hrel
  have hgs' := hb.size
  by_cases hlt : k < s.size
  ·have hkl : k < s.data.toList.length := by rw [hL.out]; exact hlt
   have hkT : k < T.size := by omega
   have hTk := hTg.out k hkT hlt
   have hcat := hat s[k]
   cases hw : wo s[k] with
   | none =>
    have hres : Hid (unhex s.data.toList 0 = .error k) := by
     rcases Nat.mod_two_eq_zero_or_one k with h0 | h1
     ·exact st_bad0 _ k o hkl h0 hun.out hw
     ·exact st_bad1 _ k o hkl h1 hun.out x (hwx.out (by omega) h1) hw
    rw [hw] at hcat
    clear hw hun hwx hown hat
    have HTk : Hid (T[k] = lo s[k]) := hTk
    clear hTk
    go_wp2_with (go_at_call 136; rw [HTk.out]; refine (hcat _).out.mono ?_; rintro e w' ⟨rfl, rfl⟩)
    go_ret3
    exact ⟨ret_tup (by rw [hres.out]; rfl), hb⟩
   | some y =>
    have hy16 := TextMath.wo_lt _ _ hw
    rw [hw] at hcat
    have HTk : Hid (T[k] = lo s[k]) := hTk
    clear hTk hat
    rcases Nat.mod_two_eq_zero_or_one k with h0 | h1
    ·have HU : Hid (_ = _) := st_even _ k o h0 hun.out
     have hh : (((k : Nat) : Int) % 2 == 0) = true := by simp; omega
     have hk2 : (k + 1) / 2 = k / 2 := by omega
     have HX : Hid (∀ (h : k + 1 - 1 < s.data.toList.length), (k + 1) % 2 = 1 → wo s.data.toList[k + 1 - 1] = some y) := fun _ _ => hw
     clear hw hun hwx
     go_wp2_with (go_at_call 136; rw [HTk.out]; refine (hcat _).out.mono ?_; rintro e w' ⟨rfl, rfl⟩)
     go_roundw
     case rel => exact ⟨k + 1, y, o, by omega, by go_num, hy16, rfl, hb, by rw [hk2]; exact hown, HU, HX⟩
     case measure => simp [intOf]; omega
    ·have HU : Hid (_ = _) := st_pair _ k o hkl h1 hun.out x y (hwx.out (by omega) h1) hw
     have hh : (((k : Nat) : Int) % 2 == 0) = false := by simp; omega
     have hk2 : (k + 1) / 2 = k / 2 + 1 := by omega
     have hnew : Hid (bv (o ++ [UInt8.ofNat (16 * x + y)]) = bv o ++ [.int .u8 (16 * (x : Int) + (y : Int))]) := by
      unfold Hid; rw [bv_app]; congr 1
      show [Value.int .u8 ((UInt8.ofNat (16 * x + y)).toNat : Int)] = _
      rw [UInt8.toNat_ofNat', Nat.mod_eq_of_lt (by omega)]; simp
     have HX : Hid (∀ (h : k + 1 - 1 < s.data.toList.length), (k + 1) % 2 = 1 → wo s.data.toList[k + 1 - 1] = some x) := fun _ h => by omega
     clear hw hun hwx
     go_wp2_with (first | (go_at_call 136; rw [HTk.out]; refine (hcat _).out.mono ?_; rintro e w' ⟨rfl, rfl⟩) | (at_builtin; refine wpList_append_own _ rfl _ _ 87 rfl w.heap.size 5 i0 (.int .u8 0) 1 1 Tryz.underlying87 hi hz0 hz1 hz2 rfl (by decide) _ _ _ rfl (hown.alloc _) ⟨wr.heap.size, 0, none⟩ 1 1 [.int .u8 (16 * (x : Int) + (y : Int))] rfl rfl ?_ ?_ ?_ ?_ ?_ ?_; exact cell_one_new _ _ _; (intro u hu; simp at hu; subst hu; rfl); (unfold maxLen; omega); omega; (simp; omega); intro v1 w1 hown1 hgrow1 _))
     go_roundw
     case rel =>
      refine ⟨k + 1, x, o ++ [UInt8.ofNat (16 * x + y)], by omega, by go_num, hx16, rfl, ?_, ?_, HU, HX⟩
      ·exact (hb.alloc hgs' _).grown hgrow1 (by simp; omega) (fun j h => (hown.lt j h).1)
      ·rw [hk2, hnew.out]; exact hown1
     case measure => simp [intOf]; omega
  ·have hke : k = s.size := by omega
   rcases Nat.mod_two_eq_zero_or_one k with h0 | h1
   ·have HR : Hid (unhex s.data.toList 0 = .ok o) := st_end0 _ k o (by rw [hL.out]; exact hke) h0 hun.out
    have hback := own_back_any (P := Tryz.prog) wr w.heap.size 87 9 5 _ _ _ Tryz.underlying87 Tryz.underlying5 Tryz.underlying9 hown
    have hkT : ¬ k < T.size := by omega
    have hh : (((T.size : Nat) : Int) % 2 != 0) = false := by simp; omega
    clear hown hun hwx hke
    go_wp2
    go_ret3
    exact ⟨ret_tup (by rw [HR.out]; unfold uhV; rw [HT.out]; rfl), hb⟩
   ·have HR : Hid (unhex s.data.toList 0 = .error k) := st_end1 _ k o (by rw [hL.out]; exact hke) h1 hun.out x (hwx.out (by rw [hL.out]; omega) h1)
    have hkT : ¬ k < T.size := by omega
    have HK : Hid (k = s.size) := hke
    have hh : (((T.size : Nat) : Int) % 2 != 0) = true := by rw [bne_iff_ne]; omega
    clear hown hun hwx hke
    go_wp2
    go_ret3
    exact ⟨ret_tup (by rw [HR.out]; unfold uhV; rw [HK.out, ← HT.out]; rfl), hb⟩
end Go.Proofs.YtkknenmpdimdbaaGreatDoor
