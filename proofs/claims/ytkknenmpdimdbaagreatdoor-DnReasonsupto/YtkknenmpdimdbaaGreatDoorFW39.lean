import Derived.Test.YtkknenmpdimdbaaGreatDoorPdF
import Derived.Test.YtkknenmpdimdbaaGreatDoorFW26
import Derived.Deep.OwnRows
namespace Go.Proofs.YtkknenmpdimdbaaGreatDoor
namespace Pa
open Go.RowKit
open TextMath (fold lo normal check wo unhex)
open Du (GOwn GRow Kd append_gen owns_same)
set_option linter.unusedVariables false
set_option linter.unusedSimpArgs false
set_option maxRecDepth 100000
abbrev Pc := Nat × Nat × Bool
def pcV (x : Pc) : List Value := [.int .i64 (x.1 : Int), .int .i64 (x.2.1 : Int), .bool x.2.2]
theorem pcV_len (x : Pc) : (pcV x).length = 3 := rfl
theorem info_pc : (Tryz.prog.info? 81).map (fun i => (i.zero, i.size, i.bytes)) = some (some (.agg #[.int .i64 0, .int .i64 0, .bool false]), 3, 24) := by kernel_rfl
theorem KDc : Kd 81 77 3 24 pcV := by
 obtain ⟨i0, hi, hz0, hz1, hz2⟩ := info_parts info_pc
 exact ⟨Tryz.underlying77, ⟨i0, _, hi, hz0, hz1, hz2, rfl⟩, by decide, by decide, pcV_len, fun x u hu => by simp [pcV] at hu; rcases hu with rfl | rfl | rfl <;> rfl⟩
def pcs : Nat → ByteArray → Nat → Bool → List Pc
 | 0, _, _, _ => []
 | n + 1, s, f, b => if h : f + endp (lf s f) < s.size then (f, f + endp (lf s f), b) :: pcs n s (f + endp (lf s f) + 1) (s[f + endp (lf s f)] == 43) else [(f, f + endp (lf s f), b)]
def PiI (s : ByteArray) (w W : World) (f m i : Nat) (b : Bool) (v : Value) (l : List Pc) : Prop :=
 GOwn 81 3 pcV W (w.heap.size + 1) v l ∧ (∃ z : Int, W.heap[w.heap.size]? = some (.cells #[.int .i64 (f : Int), .int .i64 z, .bool b] 81 (0, 0))) ∧ Below w.heap.size w W ∧
 pcs (s.size + 1) s 0 false = l ++ pcs m s f b ∧ s.size - f + 1 ≤ m ∧ f ≤ s.size ∧ f ≤ i ∧ l.length ≤ f ∧ (Al s i (f + endp (lf s f)) ∨ (i = s.size + 1 ∧ f + endp (lf s f) = s.size))
theorem gown_below {W W' : World} {B : Nat} {v : Value} {l : List Pc} (h : GOwn 81 3 pcV W B v l) (hs : ∀ g, B ≤ g → g < W.heap.size → W'.heap[g]? = W.heap[g]?) : GOwn 81 3 pcV W' B v l :=
 owns_same (show W.ownsRow B 81 3 v l.length (l.flatMap pcV) from h) (fun g hg => by
  obtain ⟨h1, h2⟩ := World.ownsRow.lt (show W.ownsRow B 81 3 v l.length (l.flatMap pcV) from h) g hg
  exact hs g h1 h2)
theorem pc_push {W : World} {B : Nat} {v : Value} {l : List Pc} (h : GOwn 81 3 pcV W B v l) (x : Pc) (hl : l.length ≤ 4096) (hB : B ≤ W.heap.size) :
  ∃ va n c w', (Builtin.append_ #[77, 77] 77 #[v, .slice (some ⟨W.heap.size, 0, none⟩) 1 1]).run Tryz.prog (W.alloc (.cells #[.int .i64 (x.1 : Int), .int .i64 (x.2.1 : Int), .bool x.2.2] 81)) = .ok (.slice va n c) w' ∧ GOwn 81 3 pcV w' B (.slice va n c) (l ++ [x]) ∧ n = l.length + 1 ∧ Below B W w' := by
 have hb : Below W.heap.size W (W.alloc (.cells #[.int .i64 (x.1 : Int), .int .i64 (x.2.1 : Int), .bool x.2.2] 81)) := (Below.refl _ _).alloc (Nat.le_refl _) _
 obtain ⟨v', w', e1, o1, g1, b1⟩ := append_gen KDc (W.alloc (.cells #[.int .i64 (x.1 : Int), .int .i64 (x.2.1 : Int), .bool x.2.2] 81)) B v l [x] (some ⟨W.heap.size, 0, none⟩) 1 1 (h.below hb) (GRow.one pcV W 81 x) rfl (Nat.le_trans hB hb.size) (by simp; omega)
 obtain ⟨va, c, e, _, _⟩ := o1.row pcV_len
 subst e
 exact ⟨va, _, c, w', e1, o1, by simp, (hb.mono hB).trans b1⟩
end Pa
end Go.Proofs.YtkknenmpdimdbaaGreatDoor

namespace Go.Proofs.YtkknenmpdimdbaaGreatDoor
namespace Pa
open Go.RowKit
open TextMath (fold lo normal check wo unhex)
open Du (GOwn GRow Kd append_gen owns_same)
set_option linter.unusedVariables false
set_option linter.unusedSimpArgs false
set_option maxRecDepth 100000
theorem pcs_step (n : Nat) (s : ByteArray) (f : Nat) (b : Bool) : pcs (n + 1) s f b = if h : f + endp (lf s f) < s.size then (f, f + endp (lf s f), b) :: pcs n s (f + endp (lf s f) + 1) (s[f + endp (lf s f)] == 43) else [(f, f + endp (lf s f), b)] := rfl
def PcQ (s : ByteArray) (w : World) (e : Ending) (w' : World) : Prop := ∃ va c, e = .returned (.slice va (pcs (s.size + 1) s 0 false).length c) ∧ GOwn 81 3 pcV w' (w.heap.size + 1) (.slice va (pcs (s.size + 1) s 0 false).length c) (pcs (s.size + 1) s 0 false) ∧ Below w.heap.size w w'
theorem to_box {W : World} {g : Nat} {x z : Value} {b : Value} (h : W.heap[g]? = some (.cells #[x, z, b] 81 (0, 0))) (y : Value) : (W.setCell ⟨g, 1, none⟩ y).heap[g]? = some (.cells #[x, y, b] 81 (0, 0)) := by
 rw [Go.heap_setCell_same _ _ _ _ _ _ h]
 simp
theorem box3 {W : World} {g : Nat} {x y z : Value} (h : W.heap[g]? = some (.cells #[x, y, z] 81 (0, 0))) : (W.cell? ⟨g, 0, none⟩ = some x ∧ W.cell? ⟨g, 1, none⟩ = some y ∧ W.cell? ⟨g, 2, none⟩ = some z) ∧ W.frozen? ⟨g, 0, none⟩ = false ∧ W.frozen? ⟨g, 1, none⟩ = false ∧ W.frozen? ⟨g, 2, none⟩ = false := by
 refine ⟨⟨?_, ?_, ?_⟩, Go.frozen_of_row _ _ _ _ _ h, Go.frozen_of_row _ _ _ _ _ h, Go.frozen_of_row _ _ _ _ _ h⟩
 ·rw [cell_of_row _ _ _ _ _ _ h]; rfl
 ·rw [cell_of_row _ _ _ _ _ _ h]; rfl
 ·rw [cell_of_row _ _ _ _ _ _ h]; rfl
theorem set3 {W : World} {g : Nat} {x y z : Value} (h : W.heap[g]? = some (.cells #[x, y, z] 81 (0, 0))) (x' y' z' : Value) : (((W.setCell ⟨g, 0, none⟩ x').setCell ⟨g, 1, none⟩ y').setCell ⟨g, 2, none⟩ z').heap[g]? = some (.cells #[x', y', z'] 81 (0, 0)) := by
 have h1 := Go.heap_setCell_same W g 0 _ _ x' h
 have h2 := Go.heap_setCell_same _ g 1 _ _ y' h1
 have h3 := Go.heap_setCell_same _ g 2 _ _ z' h2
 rw [h3]
 simp
theorem below3 {w W : World} (h : Below w.heap.size w W) (x y z : Value) : Below w.heap.size w (((W.setCell ⟨w.heap.size, 0, none⟩ x).setCell ⟨w.heap.size, 1, none⟩ y).setCell ⟨w.heap.size, 2, none⟩ z) :=
 ((h.setCell (p := ⟨w.heap.size, 0, none⟩) (Nat.le_refl _) _).setCell (p := ⟨w.heap.size, 1, none⟩) (Nat.le_refl _) _).setCell (p := ⟨w.heap.size, 2, none⟩) (Nat.le_refl _) _
theorem other3 {W : World} {g k : Nat} (hk : k ≠ g) (x y z : Value) : (((W.setCell ⟨g, 0, none⟩ x).setCell ⟨g, 1, none⟩ y).setCell ⟨g, 2, none⟩ z).heap[k]? = W.heap[k]? := by
 rw [Go.heap_setCell_other _ _ _ _ (show k ≠ g from hk), Go.heap_setCell_other _ _ _ _ (show k ≠ g from hk), Go.heap_setCell_other _ _ _ _ (show k ≠ g from hk)]
set_option maxHeartbeats 8000000 in
theorem pieces_any (s : ByteArray) (w : World) (hs : s.size ≤ 4096) :
  Calls Tryz.prog 35 #[.string s] w fun e w' => PcQ s w e w' := by
 obtain ⟨W0, hW0⟩ : ∃ W0, w.alloc (.cells #[.int .i64 0, .int .i64 0, .bool false] 81) = W0 := ⟨_, rfl⟩
 have hbx : W0.heap[w.heap.size]? = some (.cells #[.int .i64 0, .int .i64 0, .bool false] 81 (0, 0)) := by rw [← hW0]; exact heap_alloc_last w _
 have hb0 : Below w.heap.size w W0 := by rw [← hW0]; exact (Below.refl _ _).alloc (Nat.le_refl _) _
 obtain ⟨W1, hW1⟩ : ∃ W1, ((W0.setCell ⟨w.heap.size, 0, none⟩ (.int .i64 0)).setCell ⟨w.heap.size, 1, none⟩ (.int .i64 0)).setCell ⟨w.heap.size, 2, none⟩ (.bool false) = W1 := ⟨_, rfl⟩
 have h0 : Hid (PiI s w W1 0 (s.size + 1) 0 false (.slice none 0 0) []) := by
  unfold Hid
  rw [← hW1]
  exact ⟨GOwn.nil _ _ _ _ _, ⟨0, set3 hbx _ _ _⟩, below3 hb0 _ _ _, rfl, by omega, Nat.zero_le _, Nat.le_refl _, Nat.zero_le _, Or.inl ⟨Nat.zero_le _, rfl⟩⟩
 obtain ⟨⟨b0, b1, b2⟩, f0, f1, f2⟩ := box3 hbx
 have h' : Hid (s.size ≤ 4096) := hs
 clear hs hbx hb0
 go_enter Tryz.func35, Tryz.ntmps35
 go_wp2_with fail
 clear b0 b1 b2 f0 f1 f2 hW0 hW1
 go_loopw [3, 5] (fun lv iv wr => ∃ (f m i n c : Nat) (b : Bool) (va : Option Addr) (l : List Pc), iv = .int .i64 (i : Int) ∧ lv = .slice va n c ∧ Hid (PiI s w wr f m i b (.slice va n c) l ∧ n = l.length ∧ i ≤ s.size + 1)) (fun _ iv _ => s.size + 2 - (intOf iv).toNat)
 case atStart => exact ⟨0, s.size + 1, 0, 0, 0, false, none, [], rfl, rfl, h0.out, rfl, by omega⟩
 case round =>
  obtain ⟨f, m, i, n, c, b, va, l, rfl, rfl, hQ⟩ := hrel
  clear h0
  have i0 : (0 : Int) ≤ (i : Int) := Int.natCast_nonneg _
  have ib : (i : Int) ≤ 4097 := by have := hQ.out.2.2; have := h'.out; omega
  have n0 : (0 : Int) ≤ (n : Int) := Int.natCast_nonneg _
  obtain ⟨z, hbx⟩ := hQ.out.1.2.1
  have hgs : Hid (w.heap.size < wr.heap.size ∧ l.length ≤ 4096 ∧ f + endp (lf s f) ≤ s.size) := ⟨(Array.getElem?_eq_some_iff.1 hbx).1, by have := hQ.out.1.2.2.2.2.2.2.2.1; have := hQ.out.1.2.2.2.2.2.1; have := h'.out; omega, by have := endp_le _ (lf s f) (Nat.le_refl _); rw [lf_len] at this; have := hQ.out.1.2.2.2.2.2.1; omega⟩
  by_cases hlt : i < s.size
  ·have i1 : (i : Int) < (s.size : Int) := Int.ofNat_lt.2 hlt
   have hAl : Al s i (f + endp (lf s f)) := by
    rcases hQ.out.1.2.2.2.2.2.2.2.2 with h | ⟨h, _⟩
    ·exact h
    ·omega
   have hgo : Hid (∀ j, f ≤ j → (Al s j (f + endp (lf s f)) ∨ (j = s.size + 1 ∧ f + endp (lf s f) = s.size)) → PiI s w wr f m j b (.slice va n c) l) := fun j hj ha => ⟨hQ.out.1.1, hQ.out.1.2.1, hQ.out.1.2.2.1, hQ.out.1.2.2.2.1, hQ.out.1.2.2.2.2.1, hQ.out.1.2.2.2.2.2.1, hj, hQ.out.1.2.2.2.2.2.2.2.1, ha⟩
   have hfi : Hid (f ≤ i ∧ n = l.length) := ⟨hQ.out.1.2.2.2.2.2.2.1, hQ.out.2.1⟩
   obtain ⟨x, hx⟩ : ∃ x, s[i] = x := ⟨_, rfl⟩
   by_cases h92 : x = 92
   ·have g92 : ((x.toNat : Int) == 92) = true := by rw [h92]; rfl
    have hfin : Hid (PiI s w wr f m (i + 2) b (.slice va n c) l ∧ n = l.length ∧ i + 2 ≤ s.size + 1) := by
     refine ⟨hgo.out (i + 2) (by have := hfi.out.1; omega) ?_, hfi.out.2, by omega⟩
     by_cases h1 : i + 1 < s.size
     ·exact Or.inl (hAl.esc h1 (by rw [hx]; exact h92)).1
     ·have he : i + 1 = s.size := by omega
      have hli : lf s i = [92] := by rw [lf_cons hlt, lf_nil (by omega : s.size ≤ i + 1), hx, h92]
      have h2 := hAl.2
      rw [hli, endp_lame] at h2
      exact Or.inr ⟨by omega, by omega⟩
    have hlt' : Hid (i < s.size) := hlt
    clear hQ hbx hgs hAl hgo hfi h92
    go_wp2_with fail
    go_roundw
    case rel => exact ⟨f, m, i + 2, n, c, b, va, l, by go_num, rfl, hfin⟩
    case measure => have := hlt'.out; simp [intOf]; omega
   ·have g92 : ((x.toNat : Int) == 92) = false := by rw [beq_eq_false_iff_ne]; exact fun h => h92 (UInt8.toNat_inj.1 (by show x.toNat = 92; omega))
    by_cases hsep : x = 44 ∨ x = 43
    ·
     have hit : i = f + endp (lf s f) := hAl.sep hlt (by rw [hx]; exact hsep)
     obtain ⟨⟨q0, q1, q2⟩, z0, z1, z2⟩ := box3 hbx
     obtain ⟨W2, hW2⟩ : ∃ W2, wr.setCell ⟨w.heap.size, 1, none⟩ (.int .i64 ((i : Int))) = W2 := ⟨_, rfl⟩
     have hbx2 : W2.heap[w.heap.size]? = some (.cells #[.int .i64 (f : Int), .int .i64 ((i : Int)), .bool b] 81 (0, 0)) := by rw [← hW2]; exact to_box hbx _
     have hsz2 : W2.heap.size = wr.heap.size := by rw [← hW2]; exact World.size_setCell _ _ _
     have hgo2 : GOwn 81 3 pcV W2 (w.heap.size + 1) (.slice va n c) l := gown_below hQ.out.1.1 (fun k hk _ => by rw [← hW2]; exact Go.heap_setCell_other _ _ _ _ (show k ≠ w.heap.size from by omega))
     have hB2 : Below w.heap.size w W2 := by rw [← hW2]; exact hQ.out.1.2.2.1.setCell (p := ⟨w.heap.size, 1, none⟩) (Nat.le_refl _) _
     obtain ⟨xa, xn, xc, W3, e1, o3, hxn, b3⟩ := pc_push hgo2 (f, i, b) hgs.out.2.1 (by rw [hsz2]; exact hgs.out.1)
     have e1' : (Builtin.append_ #[77, 77] 77 #[.slice va n c, .slice (some ⟨W2.heap.size, 0, none⟩) 1 1]).run Tryz.prog (W2.alloc (.cells #[.int .i64 (f : Int), .int .i64 ((i : Int)), .bool b] 81)) = .ok (.slice xa xn xc) W3 := e1
     have hbx3 : W3.heap[w.heap.size]? = some (.cells #[.int .i64 (f : Int), .int .i64 ((i : Int)), .bool b] 81 (0, 0)) := by rw [b3.block _ (Nat.lt_succ_self _)]; exact hbx2
     have hB3 : Below w.heap.size w W3 := hB2.trans (b3.mono (Nat.le_succ _))
     obtain ⟨⟨u0, u1, u2⟩, v0, v1, v2⟩ := box3 hbx2
     obtain ⟨⟨y0, y1, y2⟩, r0, r1, r2⟩ := box3 hbx3
     obtain ⟨m', rfl⟩ : ∃ m', m = m' + 1 := ⟨m - 1, by have := hQ.out.1.2.2.2.2.1; omega⟩
     have hnew : ∀ b' : Bool, (x == 43) = b' → Hid (PiI s w (((W3.setCell ⟨w.heap.size, 0, none⟩ (.int .i64 ((i + 1 : Nat) : Int))).setCell ⟨w.heap.size, 1, none⟩ (.int .i64 0)).setCell ⟨w.heap.size, 2, none⟩ (.bool b')) (i + 1) m' (i + 1) b' (.slice xa xn xc) (l ++ [(f, i, b)]) ∧ xn = (l ++ [((f, i, b) : Pc)]).length ∧ i + 1 ≤ s.size + 1) := fun b' hb' => by
      refine ⟨⟨gown_below o3 (fun k hk _ => other3 (by omega) _ _ _), ⟨0, set3 hbx3 _ _ _⟩, below3 hB3 _ _ _, ?_, by have := hQ.out.1.2.2.2.2.1; omega, by omega, Nat.le_refl _, by rw [List.length_append, List.length_singleton]; have := hQ.out.1.2.2.2.2.2.2.2.1; have := hfi.out.1; omega, Or.inl ⟨by omega, rfl⟩⟩, by rw [hxn, List.length_append, List.length_singleton], by omega⟩
      have h1 := hQ.out.1.2.2.2.1
      have h2 : pcs (m' + 1) s f b = (f, i, b) :: pcs m' s (i + 1) b' := by
       rw [pcs_step]
       have hh : f + endp (lf s f) < s.size := by omega
       rw [dif_pos hh]
       have e2 : s[f + endp (lf s f)]'hh = x := by simp only [← hit]; exact hx
       rw [e2, hb', ← hit]
      rw [h2] at h1
      rw [h1]
      simp
     have hlt' : Hid (i < s.size) := hlt
     have hxn' : Hid (xn = l.length + 1) := hxn
     clear hQ hbx hgs hAl hgo hfi h92 hbx2 hsz2 hgo2 hB2 e1 o3 hxn b3 hbx3 hB3 hit
     rcases hsep with h | h
     ·have g44 : ((x.toNat : Int) == 44) = true := by rw [h]; rfl
      have g43 : ((x.toNat : Int) == 43) = false := by rw [h]; rfl
      have hfin := hnew false (by rw [h]; rfl)
      clear hnew h
      go_wp2_with (at_builtin; refine Lib.wpList_append_run _ rfl _ _ _ _ rfl _ _ rfl rfl _ _ e1' ?_; clear e1')
      go_roundw
      case rel => exact ⟨i + 1, m', i + 1, xn, xc, false, xa, _, by go_num, rfl, hfin⟩
      case measure => have := hlt'.out; simp [intOf]; omega
     ·have g44 : ((x.toNat : Int) == 44) = false := by rw [h]; rfl
      have g43 : ((x.toNat : Int) == 43) = true := by rw [h]; rfl
      have hfin := hnew true (by rw [h]; rfl)
      clear hnew h
      go_wp2_with (at_builtin; refine Lib.wpList_append_run _ rfl _ _ _ _ rfl _ _ rfl rfl _ _ e1' ?_; clear e1')
      go_roundw
      case rel => exact ⟨i + 1, m', i + 1, xn, xc, true, xa, _, by go_num, rfl, hfin⟩
      case measure => have := hlt'.out; simp [intOf]; omega
    ·have g44 : ((x.toNat : Int) == 44) = false := by rw [beq_eq_false_iff_ne]; exact fun h => hsep (Or.inl (UInt8.toNat_inj.1 (by show x.toNat = 44; omega)))
     have g43 : ((x.toNat : Int) == 43) = false := by rw [beq_eq_false_iff_ne]; exact fun h => hsep (Or.inr (UInt8.toNat_inj.1 (by show x.toNat = 43; omega)))
     have hfin : Hid (PiI s w wr f m (i + 1) b (.slice va n c) l ∧ n = l.length ∧ i + 1 ≤ s.size + 1) := ⟨hgo.out (i + 1) (by have := hfi.out.1; omega) (Or.inl (hAl.step hlt (by rw [hx]; exact hsep) (by rw [hx]; exact h92))), hfi.out.2, by omega⟩
     have hlt' : Hid (i < s.size) := hlt
     clear hQ hbx hgs hAl hgo hfi h92 hsep
     go_wp2_with fail
     go_roundw
     case rel => exact ⟨f, m, i + 1, n, c, b, va, l, by go_num, rfl, hfin⟩
     case measure => have := hlt'.out; simp [intOf]; omega
  ·
   have i1 : ¬ (i : Int) < (s.size : Int) := by omega
   have hit : f + endp (lf s f) = s.size := by
    rcases hQ.out.1.2.2.2.2.2.2.2.2 with h | ⟨_, h⟩
    ·have h1 := h.1
     have h2 := h.2
     rw [lf_nil (by omega : s.size ≤ i)] at h2
     have e0 : endp [] = 0 := rfl
     omega
    ·exact h
   obtain ⟨⟨q0, q1, q2⟩, z0, z1, z2⟩ := box3 hbx
   obtain ⟨W2, hW2⟩ : ∃ W2, wr.setCell ⟨w.heap.size, 1, none⟩ (.int .i64 ((s.size : Int))) = W2 := ⟨_, rfl⟩
   have hbx2 : W2.heap[w.heap.size]? = some (.cells #[.int .i64 (f : Int), .int .i64 ((s.size : Int)), .bool b] 81 (0, 0)) := by rw [← hW2]; exact to_box hbx _
   have hsz2 : W2.heap.size = wr.heap.size := by rw [← hW2]; exact World.size_setCell _ _ _
   have hgo2 : GOwn 81 3 pcV W2 (w.heap.size + 1) (.slice va n c) l := gown_below hQ.out.1.1 (fun k hk _ => by rw [← hW2]; exact Go.heap_setCell_other _ _ _ _ (show k ≠ w.heap.size from by omega))
   have hB2 : Below w.heap.size w W2 := by rw [← hW2]; exact hQ.out.1.2.2.1.setCell (p := ⟨w.heap.size, 1, none⟩) (Nat.le_refl _) _
   obtain ⟨xa, xn, xc, W3, e1, o3, hxn, b3⟩ := pc_push hgo2 (f, s.size, b) hgs.out.2.1 (by rw [hsz2]; exact hgs.out.1)
   have e1' : (Builtin.append_ #[77, 77] 77 #[.slice va n c, .slice (some ⟨W2.heap.size, 0, none⟩) 1 1]).run Tryz.prog (W2.alloc (.cells #[.int .i64 (f : Int), .int .i64 ((s.size : Int)), .bool b] 81)) = .ok (.slice xa xn xc) W3 := e1
   have hbx3 : W3.heap[w.heap.size]? = some (.cells #[.int .i64 (f : Int), .int .i64 ((s.size : Int)), .bool b] 81 (0, 0)) := by rw [b3.block _ (Nat.lt_succ_self _)]; exact hbx2
   have hB3 : Below w.heap.size w W3 := hB2.trans (b3.mono (Nat.le_succ _))
   obtain ⟨⟨u0, u1, u2⟩, v0, v1, v2⟩ := box3 hbx2
   have hfin : Hid (PcQ s w (.returned (.slice xa xn xc)) W3) := by
    obtain ⟨m', hm⟩ : ∃ m', m = m' + 1 := ⟨m - 1, by have := hQ.out.1.2.2.2.2.1; omega⟩
    have h1 := hQ.out.1.2.2.2.1
    have h2 : pcs m s f b = [(f, s.size, b)] := by
     rw [hm]
     rw [pcs_step]
     rw [dif_neg (by omega), hit]
    rw [h2] at h1
    refine ⟨xa, xc, ?_, ?_, hB3⟩
    ·rw [h1, hxn, List.length_append, List.length_singleton]
    ·rw [h1, List.length_append, List.length_singleton, ← hxn]
     exact o3
   clear hQ hbx hgs hlt hbx2 hsz2 hgo2 hB2 e1 o3 hxn b3 hbx3 hB3 hit
   go_wp2_with (at_builtin; refine Lib.wpList_append_run _ rfl _ _ _ _ rfl _ _ rfl rfl _ _ e1' ?_; clear e1')
   go_ret
   exact hfin.out
end Pa
end Go.Proofs.YtkknenmpdimdbaaGreatDoor

namespace Go.Proofs.YtkknenmpdimdbaaGreatDoor
namespace Pa
open Go.RowKit Go.Lib
open TextMath (fold lo normal check wo unhex)
open Ke (tyOk tyC utf PR)
open Du (GOwn GRow Kd append_gen KDp KDx pV pV_len xV xV_len owns_same owns_apart owns_base PX PRow DRow sd sd_len)
set_option linter.unusedVariables false
set_option linter.unusedSimpArgs false
set_option maxRecDepth 100000
def PT (m k : Nat) (D0 : List (List PR)) (ps : List PR) (l : List UInt8) (R : DRs) : Prop :=
 ∃ P : PRs, prt hxO m D0.length ps l = some P ∧ ((∃ e, P = .error e ∧ R = .error e) ∨ (∃ x : List PR × List UInt8, P = .ok x ∧ ((x.2.head? = some 44 ∧ nmP hxO k (D0 ++ [x.1]) (x.2.drop 1) = some R) ∨ (x.2.head? ≠ some 44 ∧ R = .ok (D0 ++ [x.1])))))
theorem pt_start {k : Nat} {D : List (List PR)} {l : List UInt8} {R : DRs} (h : nmP hxO k D l = some R) : ∃ k', PT 9 k' D [] l R := by
 cases k with
 | zero => cases h
 | succ k => exact ⟨k, nm_inv h⟩
theorem pt_step {m k : Nat} {D0 : List (List PR)} {ps : List PR} {l : List UInt8} {R : DRs} (h : PT m k D0 ps l R) :
  ((D0.length = 64 ∨ ps.length = 8) ∧ R = .error (58, (sp l).length)) ∨
  (¬ (D0.length = 64 ∨ ps.length = 8) ∧ ((∃ e, prR ps (sp l) = .error e ∧ R = .error e) ∨
   (∃ x r, prR ps (sp l) = .ok (x, r) ∧ ((r.head? = some 43 ∧ ∃ m', PT m' k D0 (ps ++ [x]) (r.drop 1) R) ∨ (r.head? = some 44 ∧ nmP hxO k (D0 ++ [ps ++ [x]]) (r.drop 1) = some R) ∨ (r.head? ≠ some 43 ∧ r.head? ≠ some 44 ∧ R = .ok (D0 ++ [ps ++ [x]])))))) := by
 obtain ⟨P, hP, hc⟩ := h
 cases m with
 | zero => cases hP
 | succ m =>
  rcases prt_inv hP with ⟨hw, rfl⟩ | ⟨hw, ⟨e, h1, rfl⟩ | ⟨x, h1, ⟨e, h2, rfl⟩ | ⟨y, h2, ⟨h3, h4⟩ | ⟨h3, rfl⟩⟩⟩⟩
  ·refine Or.inl ⟨hw, ?_⟩
   rcases hc with ⟨e, h1, h2⟩ | ⟨x, h1, _⟩
   ·injection h1 with h1; rw [h2, ← h1]
   ·cases h1
  ·refine Or.inr ⟨hw, Or.inl ⟨e, ?_, ?_⟩⟩
   ·rw [prR_pv, h1]
   ·rcases hc with ⟨e, h1, h2⟩ | ⟨x, h1, _⟩
    ·injection h1 with h1; rw [h2, ← h1]
    ·cases h1
  ·refine Or.inr ⟨hw, Or.inl ⟨e, ?_, ?_⟩⟩
   ·rw [prR_pv, h1]
    dsimp only
    rw [h2]
   ·rcases hc with ⟨e, h1, h2⟩ | ⟨x, h1, _⟩
    ·injection h1 with h1; rw [h2, ← h1]
    ·cases h1
  ·refine Or.inr ⟨hw, Or.inr ⟨(x.1, y.1), y.2, ?_, Or.inl ⟨h3, m, P, h4, hc⟩⟩⟩
   rw [prR_pv, h1]
   dsimp only
   rw [h2]
  ·refine Or.inr ⟨hw, Or.inr ⟨(x.1, y.1), y.2, ?_, Or.inr ?_⟩⟩
   ·rw [prR_pv, h1]
    dsimp only
    rw [h2]
   ·rcases hc with ⟨e, h1, _⟩ | ⟨z, h1, hz⟩
    ·cases h1
    ·injection h1 with h1
     subst h1
     rcases hz with ⟨q1, q2⟩ | ⟨q1, q2⟩
     ·exact Or.inl ⟨q1, q2⟩
     ·exact Or.inr ⟨h3, q1, q2⟩
abbrev xw (r : PX) : Value := .slice r.1 r.2.2.length r.2.1
theorem flat_xw (l : List PX) : l.flatMap xV = l.map xw := by
 induction l with
 | nil => rfl
 | cons x l ih => rw [List.flatMap_cons, ih, List.map_cons]; rfl
theorem row_set {W : World} {B g cap : Nat} {l : List PX} (h : GOwn 57 1 xV W B (.slice (some ⟨g, 0, none⟩) l.length cap) l) (i : Nat) (hi : i < l.length) (x : PX) : GOwn 57 1 xV (W.setCell ⟨g, i, none⟩ (xw x)) B (.slice (some ⟨g, 0, none⟩) l.length cap) (l.set i x) := by
 unfold GOwn at h ⊢
 rw [flat_xw] at h ⊢
 rcases h.2 with ⟨e, _⟩ | ⟨g', cap', cur, e, h3, hb, h5, h6, h7, h8⟩
 ·cases e
 ·cases e
  rw [List.length_set]
  refine ⟨by simp, Or.inr ⟨g, cap, _, rfl, h3, Go.heap_setCell_same _ _ _ _ _ _ hb, h5, h6, by simpa using h7, ?_⟩⟩
  rw [Nat.mul_one] at h8 ⊢
  rw [List.map_set, ← h8]
  simp [List.take_set]
theorem row_cell {W : World} {B g cap : Nat} {l : List PX} (h : GOwn 57 1 xV W B (.slice (some ⟨g, 0, none⟩) l.length cap) l) (i : Nat) (hi : i < l.length) : W.cell? ⟨g, i, none⟩ = some (xw l[i]) ∧ W.frozen? ⟨g, i, none⟩ = false := by
 obtain ⟨a, c, e, _, _, hr⟩ := h.row xV_len
 injection e with e1 _ e2
 subst e1 e2
 obtain ⟨b, off, e, h1⟩ := hr i hi
 injection e with e
 injection e with e1 e2
 subst e1 e2
 have := h1 0 (by omega)
 rw [Nat.mul_one, Nat.zero_add] at this
 refine ⟨this, ?_⟩
 rcases h.2 with ⟨e, _⟩ | ⟨g', cap', cur, e, h3, hb, h5, h6, h7, h8⟩
 ·cases e
 ·cases e
  exact Go.frozen_of_row _ _ _ _ _ hb
abbrev PO (B : Nat) (r : PX) (W : World) : Prop := GOwn 64 2 pV W B (xw r) r.2.2
theorem PO.set {B C : Nat} {r : PX} {W : World} {g cap : Nat} {l : List PX} (h : PO B r W) (ho : GOwn 57 1 xV W C (.slice (some ⟨g, 0, none⟩) l.length cap) l) (j : Nat) (u : Value) : PO B r (W.setCell ⟨g, j, none⟩ u) := by
 refine owns_same (show W.ownsRow B 64 2 _ _ _ from h) (fun g' hg' => Below.heap_setCell _ _ _ _ (fun e => ?_))
 subst e
 exact owns_apart (show W.ownsRow B 64 2 _ _ _ from h) (show W.ownsRow C 57 1 _ _ _ from ho) (by decide) hg' rfl
def DL (B : Nat) (W : World) (v : Value) (L : List PX) : Prop := GOwn 57 1 xV W B v L ∧ ∀ r ∈ L, PO B r W
def DI (B C : Nat) (W : World) (v : Value) (L0 : List PX) (x : PX) : Prop :=
 GOwn 57 1 xV W B v (L0 ++ [x]) ∧ (∀ r ∈ L0, PO B r W ∧ ∀ g, (xw r).ownBlock = some g → g < C) ∧ PO C x W ∧ B ≤ C ∧ C ≤ W.heap.size
theorem DI.all {B C : Nat} {W : World} {v : Value} {L0 : List PX} {x : PX} (h : DI B C W v L0 x) : DL B W v (L0 ++ [x]) := by
 refine ⟨h.1, fun r hr => ?_⟩
 rcases List.mem_append.1 hr with hr | hr
 ·exact (h.2.1 r hr).1
 ·rw [List.mem_singleton] at hr
  subst hr
  exact owns_base (show W.ownsRow C 64 2 _ _ _ from h.2.2.1) h.2.2.2.1
theorem DL.below {B : Nat} {W W' : World} {v : Value} {L : List PX} (h : DL B W v L) (hb : Below W.heap.size W W') : DL B W' v L := ⟨h.1.below hb, fun r hr => GOwn.below (h.2 r hr) hb⟩
theorem DI.below {B C : Nat} {W W' : World} {v : Value} {L0 : List PX} {x : PX} (h : DI B C W v L0 x) (hb : Below W.heap.size W W') : DI B C W' v L0 x := ⟨h.1.below hb, fun r hr => ⟨GOwn.below (h.2.1 r hr).1 hb, (h.2.1 r hr).2⟩, GOwn.below h.2.2.1 hb, h.2.2.2.1, Nat.le_trans h.2.2.2.2 hb.size⟩
theorem DL.drow {B : Nat} {W : World} {v : Value} {L : List PX} (h : DL B W v L) : ∃ va c, v = .slice va L.length c ∧ DRow W va L := by
 obtain ⟨va, c, e, _, _, hr⟩ := h.1.row xV_len
 refine ⟨va, c, e, hr, fun r hr => ?_⟩
 obtain ⟨a2, c2, f, g1, g2, g3⟩ := (h.2 r hr).row pV_len
 injection f with f1 _ f3
 rw [← f1] at g3
 rw [← f3] at g1 g2
 exact ⟨g3, g1, g2⟩
theorem DI.form {B C : Nat} {W : World} {v : Value} {L0 : List PX} {x : PX} (h : DI B C W v L0 x) : ∃ g c, v = .slice (some ⟨g, 0, none⟩) (L0.length + 1) c ∧ B ≤ g := by
 rcases Du.owns_form (show W.ownsRow _ _ _ _ _ _ from h.1) with ⟨_, h2⟩ | ⟨g, cap, e, _, _, h3, _⟩
 ·simp at h2
 ·exact ⟨g, cap, by rw [e, List.length_append]; rfl, h3⟩
theorem DL.begin {B : Nat} {W W1 : World} {v : Value} {L : List PX} (h : DL B W v L) (hB : B ≤ W.heap.size) (hb : Below W.heap.size W W1) (x : PX) (hx : PO W.heap.size x W1) (hl : L.length ≤ 64) :
  ∃ va n c w', (Builtin.append_ #[23, 23] 23 #[v, .slice (some ⟨W1.heap.size, 0, none⟩) 1 1]).run Tryz.prog (W1.alloc (.cells #[xw x] 57)) = .ok (.slice va n c) w' ∧ DI B W.heap.size w' (.slice va n c) L x ∧ n = L.length + 1 ∧ Below B W w' := by
 have hB1 : B ≤ W1.heap.size := Nat.le_trans hB hb.size
 have ba : Below W1.heap.size W1 (W1.alloc (.cells #[xw x] 57)) := (Below.refl _ _).alloc (Nat.le_refl _) _
 have h1 : GOwn 57 1 xV W1 B v L := h.1.below hb
 obtain ⟨v1, w1, e1, o1, g1, b1⟩ := append_gen KDx (W1.alloc (.cells #[xw x] 57)) B v L [x] (some ⟨W1.heap.size, 0, none⟩) 1 1 (h1.below ba) (GRow.one xV W1 57 x) rfl (Nat.le_trans hB1 ba.size) (by simp; omega)
 obtain ⟨va, c, rfl, _⟩ := o1.row xV_len
 have keep : ∀ {b : Nat} {u : Value} {l : List PR}, GOwn 64 2 pV W1 b u l → GOwn 64 2 pV w1 b u l := fun {b u l} hu => by
  have hua := hu.below ba
  exact owns_same (show World.ownsRow _ _ _ _ _ _ _ from hua) (fun g hg => g1.block g (World.ownsRow.lt (show World.ownsRow _ _ _ _ _ _ _ from hua) g hg).2 (fun e => owns_apart (show World.ownsRow _ _ 64 _ _ _ _ from hua) (show World.ownsRow _ _ 57 _ _ _ _ from h1.below ba) (by decide) hg e.symm))
 have bw1 : Below B W1 w1 := (ba.mono hB1).trans b1
 have hbw : Below B W w1 := (hb.mono hB).trans bw1
 refine ⟨va, _, c, w1, e1, ⟨o1, fun r hr => ⟨keep (GOwn.below (h.2 r hr) hb), fun g hg => (World.ownsRow.lt (show W.ownsRow _ _ _ _ _ _ from h.2 r hr) g hg).2⟩, keep hx, hB, Nat.le_trans hb.size bw1.size⟩, by simp, hbw⟩
theorem DI.push {B C : Nat} {W : World} {g cap n : Nat} {L0 : List PX} {x : PX} (h : DI B C W (.slice (some ⟨g, 0, none⟩) n cap) L0 x) (t v : List UInt8) (hl : x.2.2.length ≤ 8) :
  ∃ va m c w', (Builtin.append_ #[57, 57] 57 #[xw x, .slice (some ⟨W.heap.size, 0, none⟩) 1 1]).run Tryz.prog (W.alloc (.cells #[.string (S t), .string (S v)] 64)) = .ok (.slice va m c) w' ∧
   (w'.cell? ⟨g, L0.length, none⟩ = some (xw x) ∧ w'.frozen? ⟨g, L0.length, none⟩ = false) ∧ n = L0.length + 1 ∧ Below B W (w'.setCell ⟨g, L0.length, none⟩ (.slice va m c)) ∧
   DI B C (w'.setCell ⟨g, L0.length, none⟩ (.slice va m c)) (.slice (some ⟨g, 0, none⟩) n cap) L0 (va, c, x.2.2 ++ [(t, v)]) := by
 obtain ⟨h1, h2, h3, h4, h5⟩ := h
 have hn : n = (L0 ++ [x]).length := by
  obtain ⟨a, c, e, _⟩ := h1.row xV_len
  injection e
 have hgB : B ≤ g := (World.ownsRow.lt (show W.ownsRow _ _ _ _ _ _ from h1) g rfl).1
 have ba : Below W.heap.size W (W.alloc (.cells #[.string (S t), .string (S v)] 64)) := (Below.refl _ _).alloc (Nat.le_refl _) _
 obtain ⟨v1, w1, e1, o1, g1, b1⟩ := append_gen KDp (W.alloc (.cells #[.string (S t), .string (S v)] 64)) C (xw x) x.2.2 [(t, v)] (some ⟨W.heap.size, 0, none⟩) 1 1 (GOwn.below h3 ba) (GRow.one pV W 64 (t, v)) rfl (Nat.le_trans h5 ba.size) (by simp; omega)
 obtain ⟨va, c, rfl, _⟩ := o1.row pV_len
 have bw : Below C W w1 := (ba.mono h5).trans b1
 have od : GOwn 57 1 xV w1 B (.slice (some ⟨g, 0, none⟩) n cap) (L0 ++ [x]) := by
  have hua := h1.below ba
  exact owns_same (show World.ownsRow _ _ _ _ _ _ _ from hua) (fun g' hg' => g1.block g' (World.ownsRow.lt (show World.ownsRow _ _ _ _ _ _ _ from hua) g' hg').2 (fun e => owns_apart (show World.ownsRow _ _ 64 _ _ _ _ from GOwn.below h3 ba) (show World.ownsRow _ _ 57 _ _ _ _ from hua) (by decide) e.symm hg'))
 subst hn
 have hi : L0.length < (L0 ++ [x]).length := by simp
 obtain ⟨c1, c2⟩ := row_cell od L0.length hi
 have ex : (L0 ++ [x])[L0.length]'hi = x := by simp
 rw [ex] at c1
 have os := row_set od L0.length hi (va, c, x.2.2 ++ [(t, v)])
 have es : (L0 ++ [x]).set L0.length (va, c, x.2.2 ++ [(t, v)]) = L0 ++ [(va, c, x.2.2 ++ [(t, v)])] := by simp
 rw [es] at os
 have bB : Below B W w1 := bw.mono h4
 refine ⟨va, _, c, w1, e1, ⟨c1, c2⟩, by simp, bB.setCell (p := ⟨g, L0.length, none⟩) hgB _, os, fun r hr => ⟨PO.set ?_ od _ _, (h2 r hr).2⟩, PO.set (r := (va, c, x.2.2 ++ [(t, v)])) o1 od _ _, h4, ?_⟩
 ·exact owns_same (show World.ownsRow _ _ _ _ _ _ _ from (h2 r hr).1) (fun g' hg' => bw.block g' ((h2 r hr).2 g' hg'))
 ·rw [World.size_setCell]
  exact Nat.le_trans h5 bw.size
def ST (s : ByteArray) (R : DRs) (B : Nat) (W : World) (v : Value) (L : List PX) (f : Nat) (b : Bool) : Prop :=
 DL B W v L ∧ (b = false → ∃ k, nmP hxO k (sd L) (lf s f) = some R) ∧
 (b = true → ∃ L0 x C m k, L = L0 ++ [x] ∧ DI B C W v L0 x ∧ L0.length < 64 ∧ x.2.2.length ≤ 8 ∧ PT m k (sd L0) x.2.2 (lf s f) R) ∧
 (∀ r ∈ L, r.2.2.length ≤ 8 ∧ ∀ q ∈ r.2.2, q.1.length ≤ 4096 ∧ q.2.length ≤ 4096) ∧ L.length ≤ 64
theorem ST.below {s : ByteArray} {R : DRs} {B : Nat} {W W' : World} {v : Value} {L : List PX} {f : Nat} {b : Bool} (h : ST s R B W v L f b) (hb : Below W.heap.size W W') : ST s R B W' v L f b :=
 ⟨h.1.below hb, h.2.1, fun e => by obtain ⟨L0, x, C, m, k, h1, h2, h3⟩ := h.2.2.1 e; exact ⟨L0, x, C, m, k, h1, h2.below hb, h3⟩, h.2.2.2⟩
def NX (s : ByteArray) (R : DRs) (B : Nat) (L : List Pc) (i : Nat) (W : World) (v : Value) (Ls : List PX) : Prop :=
 (∃ f m b, L.drop i = pcs m s f b ∧ s.size - f + 1 ≤ m ∧ f ≤ s.size ∧ ST s R B W v Ls f b) ∨
 (i = L.length ∧ R = .ok (sd Ls) ∧ DL B W v Ls ∧ (∀ r ∈ Ls, r.2.2.length ≤ 8 ∧ ∀ q ∈ r.2.2, q.1.length ≤ 4096 ∧ q.2.length ≤ 4096) ∧ Ls.length ≤ 64)
theorem pc_at {s : ByteArray} {L : List Pc} {i m f : Nat} {b : Bool} (h : L.drop i = pcs m s f b) (hm : s.size - f + 1 ≤ m) (hf : f ≤ s.size) :
  ∃ hi : i < L.length, L[i] = (f, f + endp (lf s f), b) ∧ Al s f (f + endp (lf s f)) ∧ ((∃ ht : f + endp (lf s f) < s.size, ∃ m', L.drop (i + 1) = pcs m' s (f + endp (lf s f) + 1) (s[f + endp (lf s f)] == 43) ∧ s.size - (f + endp (lf s f) + 1) + 1 ≤ m') ∨ (f + endp (lf s f) = s.size ∧ i + 1 = L.length)) := by
 obtain ⟨m', rfl⟩ : ∃ m', m = m' + 1 := ⟨m - 1, by omega⟩
 have hal : Al s f (f + endp (lf s f)) := ⟨hf, rfl⟩
 have hle := hal.le
 rw [pcs_step] at h
 have hi : i < L.length := by
  rcases Nat.lt_or_ge i L.length with q | q
  ·exact q
  ·rw [List.drop_eq_nil_of_le q] at h
   split at h <;> cases h
 rw [List.drop_eq_getElem_cons hi] at h
 refine ⟨hi, ?_⟩
 by_cases ht : f + endp (lf s f) < s.size
 ·rw [dif_pos ht] at h
  injection h with h1 h2
  exact ⟨h1, hal, Or.inl ⟨ht, m', h2, by omega⟩⟩
 ·rw [dif_neg ht] at h
  injection h with h1 h2
  have := congrArg List.length h2
  rw [List.length_drop, List.length_nil] at this
  exact ⟨h1, hal, Or.inr ⟨by omega, by omega⟩⟩
theorem sd_app (L0 : List PX) (x : PX) : sd (L0 ++ [x]) = sd L0 ++ [x.2.2] := by simp [sd]
theorem lf_hd {s : ByteArray} {t : Nat} (ht : t < s.size) : (lf s t).head? = some s[t] := by rw [lf_cons ht]; rfl
theorem nx_step {s : ByteArray} {R : DRs} {B C : Nat} {L : List Pc} {i f m k : Nat} {b : Bool} {W : World} {v : Value} {L0 : List PX} {xa : Option Addr} {xc : Nat} {ps : List PR} {q : PR} {r : List UInt8}
  (hd : L.drop i = pcs m s f b) (hm : s.size - f + 1 ≤ m) (hf : f ≤ s.size) (hD : DI B C W v L0 (xa, xc, ps ++ [q])) (h64 : L0.length < 64) (h8 : ps.length < 8)
  (hz : ∀ r ∈ L0, r.2.2.length ≤ 8 ∧ ∀ q ∈ r.2.2, q.1.length ≤ 4096 ∧ q.2.length ≤ 4096) (hp : ∀ q ∈ ps, q.1.length ≤ 4096 ∧ q.2.length ≤ 4096) (hq : q.1.length ≤ 4096 ∧ q.2.length ≤ 4096)
  (hr : r = lf s (f + endp (lf s f)))
  (hc : (r.head? = some 43 ∧ ∃ m', PT m' k (sd L0) (ps ++ [q]) (r.drop 1) R) ∨ (r.head? = some 44 ∧ nmP hxO k (sd L0 ++ [ps ++ [q]]) (r.drop 1) = some R) ∨ (r.head? ≠ some 43 ∧ r.head? ≠ some 44 ∧ R = .ok (sd L0 ++ [ps ++ [q]]))) :
  NX s R B L (i + 1) W v (L0 ++ [((xa, xc, ps ++ [q]) : PX)]) := by
 obtain ⟨hi, _, hal, hn⟩ := pc_at hd hm hf
 have hsz : ∀ r ∈ L0 ++ [((xa, xc, ps ++ [q]) : PX)], r.2.2.length ≤ 8 ∧ ∀ q ∈ r.2.2, q.1.length ≤ 4096 ∧ q.2.length ≤ 4096 := fun r hr => by
  rcases List.mem_append.1 hr with hr | hr
  ·exact hz r hr
  ·rw [List.mem_singleton] at hr
   subst hr
   refine ⟨by simp; omega, fun y hy => ?_⟩
   rcases List.mem_append.1 hy with hy | hy
   ·exact hp y hy
   ·rw [List.mem_singleton] at hy
    subst hy
    exact hq
 have hlen : (L0 ++ [((xa, xc, ps ++ [q]) : PX)]).length ≤ 64 := by simp; omega
 have hen := hal.en
 generalize f + endp (lf s f) = t at *
 rcases hn with ⟨ht, m', h1, h2⟩ | ⟨ht, h1⟩
 ·have hh : r.head? = some s[t] := by rw [hr, lf_hd ht]
  have hdr : r.drop 1 = lf s (t + 1) := by rw [hr, lf_drop]
  rw [hdr] at hc
  rcases hc with ⟨g1, m2, g2⟩ | ⟨g1, g2⟩ | ⟨g1, g2, _⟩
  ·rw [hh] at g1
   injection g1 with g1
   refine Or.inl ⟨t + 1, m', true, ?_, h2, ht, hD.all, fun e => (by cases e), fun _ => ⟨L0, _, C, m2, k, rfl, hD, h64, by simp; omega, g2⟩, hsz, hlen⟩
   rw [h1, g1]
   rfl
  ·rw [hh] at g1
   injection g1 with g1
   refine Or.inl ⟨t + 1, m', false, ?_, h2, ht, hD.all, fun _ => ⟨k, by rw [sd_app]; exact g2⟩, fun e => (by cases e), hsz, hlen⟩
   rw [h1, g1]
   rfl
  ·rcases hen with e | ⟨c, r', e, hcc⟩
   ·rw [hr, e] at hh
    cases hh
   ·rw [hr, e] at g1 g2
    rcases hcc with rfl | rfl
    ·exact absurd rfl g2
    ·exact absurd rfl g1
 ·have hnil : r = [] := by rw [hr, lf_nil (by omega)]
  rw [hnil] at hc
  rcases hc with ⟨g1, _⟩ | ⟨g1, _⟩ | ⟨_, _, g3⟩
  ·cases g1
  ·cases g1
  ·exact Or.inr ⟨h1, by rw [sd_app]; exact g3, hD.all, hsz, hlen⟩
def PrQ5 (n : Nat) (w : World) (R : DRs) (e : Ending) (w' : World) : Prop :=
 Below w.heap.size w w' ∧ ((∃ D va c L, R = .ok D ∧ e = .returned (.tuple #[.slice va D.length c, .int .i64 0, .int .i64 0]) ∧ DRow w' va L ∧ sd L = D ∧ D.length ≤ 64 ∧ (∀ r ∈ D, r.length ≤ 8 ∧ ∀ q ∈ r, q.1.length ≤ 4096 ∧ q.2.length ≤ 4096)) ∨
  (∃ k m, R = .error (k, m) ∧ e = .returned (.tuple #[.slice none 0 0, .int .i64 (k : Int), .int .i64 ((n - m : Nat) : Int)])))
end Pa
end Go.Proofs.YtkknenmpdimdbaaGreatDoor
