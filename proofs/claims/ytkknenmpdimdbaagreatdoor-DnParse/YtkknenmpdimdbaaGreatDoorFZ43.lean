import Derived.Test.YtkknenmpdimdbaaGreatDoorPdF
namespace Go.Proofs.YtkknenmpdimdbaaGreatDoor
namespace Pa
open Go.RowKit
open TextMath (fold lo normal check wo unhex)
open Du (GOwn GRow Kd append_gen owns_same)
set_option linter.unusedVariables false
set_option linter.unusedSimpArgs false
set_option maxRecDepth 100000

/-- A piece: from, to, whether a plus stands ahead. -/
abbrev Pc := Nat × Nat × Bool
def pcV (x : Pc) : List Value := [.int .i64 (x.1 : Int), .int .i64 (x.2.1 : Int), .bool x.2.2]
theorem pcV_len (x : Pc) : (pcV x).length = 3 := rfl
theorem info_pc : (Tryz.prog.info? 81).map (fun i => (i.zero, i.size, i.bytes)) = some (some (.agg #[.int .i64 0, .int .i64 0, .bool false]), 3, 24) := by kernel_rfl
theorem KDc : Kd 81 77 3 24 pcV := by
  obtain ⟨i0, hi, hz0, hz1, hz2⟩ := info_parts info_pc
  exact ⟨Tryz.underlying77, ⟨i0, _, hi, hz0, hz1, hz2, rfl⟩, by decide, by decide, pcV_len, fun x u hu => by simp [pcV] at hu; rcases hu with rfl | rfl | rfl <;> rfl⟩
/-- The pieces from f on. -/
def pcs : Nat → ByteArray → Nat → Bool → List Pc
  | 0, _, _, _ => []
  | n + 1, s, f, b => if h : f + endp (lf s f) < s.size then (f, f + endp (lf s f), b) :: pcs n s (f + endp (lf s f) + 1) (s[f + endp (lf s f)] == 43) else [(f, f + endp (lf s f), b)]
/-- How pieces stands. -/
def PiI (s : ByteArray) (w W : World) (f m i : Nat) (b : Bool) (v : Value) (l : List Pc) : Prop :=
  GOwn 81 3 pcV W (w.heap.size + 1) v l ∧ (∃ z : Int, W.heap[w.heap.size]? = some (.cells #[.int .i64 (f : Int), .int .i64 z, .bool b] 81 (0, 0))) ∧ Below w.heap.size w W ∧
  pcs (s.size + 1) s 0 false = l ++ pcs m s f b ∧ s.size - f + 1 ≤ m ∧ f ≤ s.size ∧ f ≤ i ∧ l.length ≤ f ∧ (Al s i (f + endp (lf s f)) ∨ (i = s.size + 1 ∧ f + endp (lf s f) = s.size))
theorem gown_below {W W' : World} {B : Nat} {v : Value} {l : List Pc} (h : GOwn 81 3 pcV W B v l) (hs : ∀ g, B ≤ g → g < W.heap.size → W'.heap[g]? = W.heap[g]?) : GOwn 81 3 pcV W' B v l :=
  owns_same (show W.ownsRow B 81 3 v l.length (l.flatMap pcV) from h) (fun g hg => by
    obtain ⟨h1, h2⟩ := World.ownsRow.lt (show W.ownsRow B 81 3 v l.length (l.flatMap pcV) from h) g hg
    exact hs g h1 h2)
/-- One piece more, as it stands in its box. -/
theorem pc_push {W : World} {B : Nat} {v : Value} {l : List Pc} (h : GOwn 81 3 pcV W B v l) (x : Pc) (hl : l.length ≤ 4096) (hB : B ≤ W.heap.size) :
    ∃ va n c w', (Builtin.append_ #[77, 77] 77 #[v, .slice (some ⟨W.heap.size, 0, none⟩) 1 1]).run Tryz.prog (W.alloc (.cells #[.int .i64 (x.1 : Int), .int .i64 (x.2.1 : Int), .bool x.2.2] 81)) = .ok (.slice va n c) w' ∧ GOwn 81 3 pcV w' B (.slice va n c) (l ++ [x]) ∧ n = l.length + 1 ∧ Below B W w' := by
  have hb : Below W.heap.size W (W.alloc (.cells #[.int .i64 (x.1 : Int), .int .i64 (x.2.1 : Int), .bool x.2.2] 81)) := (Below.refl _ _).alloc (Nat.le_refl _) _
  obtain ⟨v', w', e1, o1, g1, b1⟩ := append_gen KDc (W.alloc (.cells #[.int .i64 (x.1 : Int), .int .i64 (x.2.1 : Int), .bool x.2.2] 81)) B v l [x] (some ⟨W.heap.size, 0, none⟩) 1 1 (h.below hb) (GRow.one pcV W 81 x) rfl (Nat.le_trans hB hb.size) (by simp; omega)
  obtain ⟨va, c, e, _, _⟩ := o1.row pcV_len
  subst e
  exact ⟨va, _, c, w', e1, o1, by simp, (hb.mono hB).trans b1⟩
end Pa
end Go.Proofs.YtkknenmpdimdbaaGreatDoor

namespace Go.Proofs.YtkknenmpdimdbaaGreatDoor
namespace Pa
open Go.RowKit
open TextMath (fold lo normal check wo unhex)
open Du (GOwn GRow Kd append_gen owns_same)
set_option linter.unusedVariables false
set_option linter.unusedSimpArgs false
set_option maxRecDepth 100000

theorem pcs_step (n : Nat) (s : ByteArray) (f : Nat) (b : Bool) : pcs (n + 1) s f b = if h : f + endp (lf s f) < s.size then (f, f + endp (lf s f), b) :: pcs n s (f + endp (lf s f) + 1) (s[f + endp (lf s f)] == 43) else [(f, f + endp (lf s f), b)] := rfl
/-- What pieces answers. -/
def PcQ (s : ByteArray) (w : World) (e : Ending) (w' : World) : Prop := ∃ va c, e = .returned (.slice va (pcs (s.size + 1) s 0 false).length c) ∧ GOwn 81 3 pcV w' (w.heap.size + 1) (.slice va (pcs (s.size + 1) s 0 false).length c) (pcs (s.size + 1) s 0 false) ∧ Below w.heap.size w w'
/-- The box with its To written. -/
theorem to_box {W : World} {g : Nat} {x z : Value} {b : Value} (h : W.heap[g]? = some (.cells #[x, z, b] 81 (0, 0))) (y : Value) : (W.setCell ⟨g, 1, none⟩ y).heap[g]? = some (.cells #[x, y, b] 81 (0, 0)) := by
  rw [Go.heap_setCell_same _ _ _ _ _ _ h]
  simp
theorem box3 {W : World} {g : Nat} {x y z : Value} (h : W.heap[g]? = some (.cells #[x, y, z] 81 (0, 0))) : (W.cell? ⟨g, 0, none⟩ = some x ∧ W.cell? ⟨g, 1, none⟩ = some y ∧ W.cell? ⟨g, 2, none⟩ = some z) ∧ W.frozen? ⟨g, 0, none⟩ = false ∧ W.frozen? ⟨g, 1, none⟩ = false ∧ W.frozen? ⟨g, 2, none⟩ = false := by
  refine ⟨⟨?_, ?_, ?_⟩, Go.frozen_of_row _ _ _ _ _ h, Go.frozen_of_row _ _ _ _ _ h, Go.frozen_of_row _ _ _ _ _ h⟩
  · rw [cell_of_row _ _ _ _ _ _ h]; rfl
  · rw [cell_of_row _ _ _ _ _ _ h]; rfl
  · rw [cell_of_row _ _ _ _ _ _ h]; rfl
theorem set3 {W : World} {g : Nat} {x y z : Value} (h : W.heap[g]? = some (.cells #[x, y, z] 81 (0, 0))) (x' y' z' : Value) : (((W.setCell ⟨g, 0, none⟩ x').setCell ⟨g, 1, none⟩ y').setCell ⟨g, 2, none⟩ z').heap[g]? = some (.cells #[x', y', z'] 81 (0, 0)) := by
  have h1 := Go.heap_setCell_same W g 0 _ _ x' h
  have h2 := Go.heap_setCell_same _ g 1 _ _ y' h1
  have h3 := Go.heap_setCell_same _ g 2 _ _ z' h2
  rw [h3]
  simp
theorem below3 {w W : World} (h : Below w.heap.size w W) (x y z : Value) : Below w.heap.size w (((W.setCell ⟨w.heap.size, 0, none⟩ x).setCell ⟨w.heap.size, 1, none⟩ y).setCell ⟨w.heap.size, 2, none⟩ z) :=
  ((h.setCell (p := ⟨w.heap.size, 0, none⟩) (Nat.le_refl _) _).setCell (p := ⟨w.heap.size, 1, none⟩) (Nat.le_refl _) _).setCell (p := ⟨w.heap.size, 2, none⟩) (Nat.le_refl _) _
theorem other3 {W : World} {g k : Nat} (hk : k ≠ g) (x y z : Value) : (((W.setCell ⟨g, 0, none⟩ x).setCell ⟨g, 1, none⟩ y).setCell ⟨g, 2, none⟩ z).heap[k]? = W.heap[k]? := by
  rw [Go.heap_setCell_other _ _ _ _ (show k ≠ g from hk), Go.heap_setCell_other _ _ _ _ (show k ≠ g from hk), Go.heap_setCell_other _ _ _ _ (show k ≠ g from hk)]
set_option maxHeartbeats 8000000 in
theorem pieces_any (s : ByteArray) (w : World) (hs : s.size ≤ 4096) :
    Calls Tryz.prog 35 #[.string s] w fun e w' => PcQ s w e w' := by
  obtain ⟨W0, hW0⟩ : ∃ W0, w.alloc (.cells #[.int .i64 0, .int .i64 0, .bool false] 81) = W0 := ⟨_, rfl⟩
  have hbx : W0.heap[w.heap.size]? = some (.cells #[.int .i64 0, .int .i64 0, .bool false] 81 (0, 0)) := by rw [← hW0]; exact heap_alloc_last w _
  have hb0 : Below w.heap.size w W0 := by rw [← hW0]; exact (Below.refl _ _).alloc (Nat.le_refl _) _
  obtain ⟨W1, hW1⟩ : ∃ W1, ((W0.setCell ⟨w.heap.size, 0, none⟩ (.int .i64 0)).setCell ⟨w.heap.size, 1, none⟩ (.int .i64 0)).setCell ⟨w.heap.size, 2, none⟩ (.bool false) = W1 := ⟨_, rfl⟩
  have h0 : Hid (PiI s w W1 0 (s.size + 1) 0 false (.slice none 0 0) []) := by
    unfold Hid
    rw [← hW1]
    exact ⟨GOwn.nil _ _ _ _ _, ⟨0, set3 hbx _ _ _⟩, below3 hb0 _ _ _, rfl, by omega, Nat.zero_le _, Nat.le_refl _, Nat.zero_le _, Or.inl ⟨Nat.zero_le _, rfl⟩⟩
  obtain ⟨⟨b0, b1, b2⟩, f0, f1, f2⟩ := box3 hbx
  have h' : Hid (s.size ≤ 4096) := hs
  clear hs hbx hb0
  go_enter Tryz.func35, Tryz.ntmps35
  go_wp2_with fail
  clear b0 b1 b2 f0 f1 f2 hW0 hW1
  go_loopw [3, 5] (fun lv iv wr => ∃ (f m i n c : Nat) (b : Bool) (va : Option Addr) (l : List Pc), iv = .int .i64 (i : Int) ∧ lv = .slice va n c ∧ Hid (PiI s w wr f m i b (.slice va n c) l ∧ n = l.length ∧ i ≤ s.size + 1)) (fun _ iv _ => s.size + 2 - (intOf iv).toNat)
  case atStart => exact ⟨0, s.size + 1, 0, 0, 0, false, none, [], rfl, rfl, h0.out, rfl, by omega⟩
  case round =>
    obtain ⟨f, m, i, n, c, b, va, l, rfl, rfl, hQ⟩ := hrel
    clear h0
    have i0 : (0 : Int) ≤ (i : Int) := Int.natCast_nonneg _
    have ib : (i : Int) ≤ 4097 := by have := hQ.out.2.2; have := h'.out; omega
    have n0 : (0 : Int) ≤ (n : Int) := Int.natCast_nonneg _
    obtain ⟨z, hbx⟩ := hQ.out.1.2.1
    have hgs : Hid (w.heap.size < wr.heap.size ∧ l.length ≤ 4096 ∧ f + endp (lf s f) ≤ s.size) := ⟨(Array.getElem?_eq_some_iff.1 hbx).1, by have := hQ.out.1.2.2.2.2.2.2.2.1; have := hQ.out.1.2.2.2.2.2.1; have := h'.out; omega, by have := endp_le _ (lf s f) (Nat.le_refl _); rw [lf_len] at this; have := hQ.out.1.2.2.2.2.2.1; omega⟩
    by_cases hlt : i < s.size
    · have i1 : (i : Int) < (s.size : Int) := Int.ofNat_lt.2 hlt
      have hAl : Al s i (f + endp (lf s f)) := by
        rcases hQ.out.1.2.2.2.2.2.2.2.2 with h | ⟨h, _⟩
        · exact h
        · omega
      have hgo : Hid (∀ j, f ≤ j → (Al s j (f + endp (lf s f)) ∨ (j = s.size + 1 ∧ f + endp (lf s f) = s.size)) → PiI s w wr f m j b (.slice va n c) l) := fun j hj ha => ⟨hQ.out.1.1, hQ.out.1.2.1, hQ.out.1.2.2.1, hQ.out.1.2.2.2.1, hQ.out.1.2.2.2.2.1, hQ.out.1.2.2.2.2.2.1, hj, hQ.out.1.2.2.2.2.2.2.2.1, ha⟩
      have hfi : Hid (f ≤ i ∧ n = l.length) := ⟨hQ.out.1.2.2.2.2.2.2.1, hQ.out.2.1⟩
      obtain ⟨x, hx⟩ : ∃ x, s[i] = x := ⟨_, rfl⟩
      by_cases h92 : x = 92
      · have g92 : ((x.toNat : Int) == 92) = true := by rw [h92]; rfl
        have hfin : Hid (PiI s w wr f m (i + 2) b (.slice va n c) l ∧ n = l.length ∧ i + 2 ≤ s.size + 1) := by
          refine ⟨hgo.out (i + 2) (by have := hfi.out.1; omega) ?_, hfi.out.2, by omega⟩
          by_cases h1 : i + 1 < s.size
          · exact Or.inl (hAl.esc h1 (by rw [hx]; exact h92)).1
          · have he : i + 1 = s.size := by omega
            have hli : lf s i = [92] := by rw [lf_cons hlt, lf_nil (by omega : s.size ≤ i + 1), hx, h92]
            have h2 := hAl.2
            rw [hli, endp_lame] at h2
            exact Or.inr ⟨by omega, by omega⟩
        have hlt' : Hid (i < s.size) := hlt
        clear hQ hbx hgs hAl hgo hfi h92
        go_wp2_with fail
        go_roundw
        case rel => exact ⟨f, m, i + 2, n, c, b, va, l, by go_num, rfl, hfin⟩
        case measure => have := hlt'.out; simp [intOf]; omega
      · have g92 : ((x.toNat : Int) == 92) = false := by rw [beq_eq_false_iff_ne]; exact fun h => h92 (UInt8.toNat_inj.1 (by show x.toNat = 92; omega))
        by_cases hsep : x = 44 ∨ x = 43
        · -- SEP
          have hit : i = f + endp (lf s f) := hAl.sep hlt (by rw [hx]; exact hsep)
          obtain ⟨⟨q0, q1, q2⟩, z0, z1, z2⟩ := box3 hbx
          obtain ⟨W2, hW2⟩ : ∃ W2, wr.setCell ⟨w.heap.size, 1, none⟩ (.int .i64 ((i : Int))) = W2 := ⟨_, rfl⟩
          have hbx2 : W2.heap[w.heap.size]? = some (.cells #[.int .i64 (f : Int), .int .i64 ((i : Int)), .bool b] 81 (0, 0)) := by rw [← hW2]; exact to_box hbx _
          have hsz2 : W2.heap.size = wr.heap.size := by rw [← hW2]; exact World.size_setCell _ _ _
          have hgo2 : GOwn 81 3 pcV W2 (w.heap.size + 1) (.slice va n c) l := gown_below hQ.out.1.1 (fun k hk _ => by rw [← hW2]; exact Go.heap_setCell_other _ _ _ _ (show k ≠ w.heap.size from by omega))
          have hB2 : Below w.heap.size w W2 := by rw [← hW2]; exact hQ.out.1.2.2.1.setCell (p := ⟨w.heap.size, 1, none⟩) (Nat.le_refl _) _
          obtain ⟨xa, xn, xc, W3, e1, o3, hxn, b3⟩ := pc_push hgo2 (f, i, b) hgs.out.2.1 (by rw [hsz2]; exact hgs.out.1)
          have e1' : (Builtin.append_ #[77, 77] 77 #[.slice va n c, .slice (some ⟨W2.heap.size, 0, none⟩) 1 1]).run Tryz.prog (W2.alloc (.cells #[.int .i64 (f : Int), .int .i64 ((i : Int)), .bool b] 81)) = .ok (.slice xa xn xc) W3 := e1
          have hbx3 : W3.heap[w.heap.size]? = some (.cells #[.int .i64 (f : Int), .int .i64 ((i : Int)), .bool b] 81 (0, 0)) := by rw [b3.block _ (Nat.lt_succ_self _)]; exact hbx2
          have hB3 : Below w.heap.size w W3 := hB2.trans (b3.mono (Nat.le_succ _))
          obtain ⟨⟨u0, u1, u2⟩, v0, v1, v2⟩ := box3 hbx2
          obtain ⟨⟨y0, y1, y2⟩, r0, r1, r2⟩ := box3 hbx3
          obtain ⟨m', rfl⟩ : ∃ m', m = m' + 1 := ⟨m - 1, by have := hQ.out.1.2.2.2.2.1; omega⟩
          have hnew : ∀ b' : Bool, (x == 43) = b' → Hid (PiI s w (((W3.setCell ⟨w.heap.size, 0, none⟩ (.int .i64 ((i + 1 : Nat) : Int))).setCell ⟨w.heap.size, 1, none⟩ (.int .i64 0)).setCell ⟨w.heap.size, 2, none⟩ (.bool b')) (i + 1) m' (i + 1) b' (.slice xa xn xc) (l ++ [(f, i, b)]) ∧ xn = (l ++ [((f, i, b) : Pc)]).length ∧ i + 1 ≤ s.size + 1) := fun b' hb' => by
            refine ⟨⟨gown_below o3 (fun k hk _ => other3 (by omega) _ _ _), ⟨0, set3 hbx3 _ _ _⟩, below3 hB3 _ _ _, ?_, by have := hQ.out.1.2.2.2.2.1; omega, by omega, Nat.le_refl _, by rw [List.length_append, List.length_singleton]; have := hQ.out.1.2.2.2.2.2.2.2.1; have := hfi.out.1; omega, Or.inl ⟨by omega, rfl⟩⟩, by rw [hxn, List.length_append, List.length_singleton], by omega⟩
            have h1 := hQ.out.1.2.2.2.1
            have h2 : pcs (m' + 1) s f b = (f, i, b) :: pcs m' s (i + 1) b' := by
              rw [pcs_step]
              have hh : f + endp (lf s f) < s.size := by omega
              rw [dif_pos hh]
              have e2 : s[f + endp (lf s f)]'hh = x := by simp only [← hit]; exact hx
              rw [e2, hb', ← hit]
            rw [h2] at h1
            rw [h1]
            simp
          have hlt' : Hid (i < s.size) := hlt
          have hxn' : Hid (xn = l.length + 1) := hxn
          clear hQ hbx hgs hAl hgo hfi h92 hbx2 hsz2 hgo2 hB2 e1 o3 hxn b3 hbx3 hB3 hit
          rcases hsep with h | h
          · have g44 : ((x.toNat : Int) == 44) = true := by rw [h]; rfl
            have g43 : ((x.toNat : Int) == 43) = false := by rw [h]; rfl
            have hfin := hnew false (by rw [h]; rfl)
            clear hnew h
            go_wp2_with (at_builtin; refine Lib.wpList_append_run _ rfl _ _ _ _ rfl _ _ rfl rfl _ _ e1' ?_; clear e1')
            go_roundw
            case rel => exact ⟨i + 1, m', i + 1, xn, xc, false, xa, _, by go_num, rfl, hfin⟩
            case measure => have := hlt'.out; simp [intOf]; omega
          · have g44 : ((x.toNat : Int) == 44) = false := by rw [h]; rfl
            have g43 : ((x.toNat : Int) == 43) = true := by rw [h]; rfl
            have hfin := hnew true (by rw [h]; rfl)
            clear hnew h
            go_wp2_with (at_builtin; refine Lib.wpList_append_run _ rfl _ _ _ _ rfl _ _ rfl rfl _ _ e1' ?_; clear e1')
            go_roundw
            case rel => exact ⟨i + 1, m', i + 1, xn, xc, true, xa, _, by go_num, rfl, hfin⟩
            case measure => have := hlt'.out; simp [intOf]; omega
        · have g44 : ((x.toNat : Int) == 44) = false := by rw [beq_eq_false_iff_ne]; exact fun h => hsep (Or.inl (UInt8.toNat_inj.1 (by show x.toNat = 44; omega)))
          have g43 : ((x.toNat : Int) == 43) = false := by rw [beq_eq_false_iff_ne]; exact fun h => hsep (Or.inr (UInt8.toNat_inj.1 (by show x.toNat = 43; omega)))
          have hfin : Hid (PiI s w wr f m (i + 1) b (.slice va n c) l ∧ n = l.length ∧ i + 1 ≤ s.size + 1) := ⟨hgo.out (i + 1) (by have := hfi.out.1; omega) (Or.inl (hAl.step hlt (by rw [hx]; exact hsep) (by rw [hx]; exact h92))), hfi.out.2, by omega⟩
          have hlt' : Hid (i < s.size) := hlt
          clear hQ hbx hgs hAl hgo hfi h92 hsep
          go_wp2_with fail
          go_roundw
          case rel => exact ⟨f, m, i + 1, n, c, b, va, l, by go_num, rfl, hfin⟩
          case measure => have := hlt'.out; simp [intOf]; omega
    · -- END
      have i1 : ¬ (i : Int) < (s.size : Int) := by omega
      have hit : f + endp (lf s f) = s.size := by
        rcases hQ.out.1.2.2.2.2.2.2.2.2 with h | ⟨_, h⟩
        · have h1 := h.1
          have h2 := h.2
          rw [lf_nil (by omega : s.size ≤ i)] at h2
          have e0 : endp [] = 0 := rfl
          omega
        · exact h
      obtain ⟨⟨q0, q1, q2⟩, z0, z1, z2⟩ := box3 hbx
      obtain ⟨W2, hW2⟩ : ∃ W2, wr.setCell ⟨w.heap.size, 1, none⟩ (.int .i64 ((s.size : Int))) = W2 := ⟨_, rfl⟩
      have hbx2 : W2.heap[w.heap.size]? = some (.cells #[.int .i64 (f : Int), .int .i64 ((s.size : Int)), .bool b] 81 (0, 0)) := by rw [← hW2]; exact to_box hbx _
      have hsz2 : W2.heap.size = wr.heap.size := by rw [← hW2]; exact World.size_setCell _ _ _
      have hgo2 : GOwn 81 3 pcV W2 (w.heap.size + 1) (.slice va n c) l := gown_below hQ.out.1.1 (fun k hk _ => by rw [← hW2]; exact Go.heap_setCell_other _ _ _ _ (show k ≠ w.heap.size from by omega))
      have hB2 : Below w.heap.size w W2 := by rw [← hW2]; exact hQ.out.1.2.2.1.setCell (p := ⟨w.heap.size, 1, none⟩) (Nat.le_refl _) _
      obtain ⟨xa, xn, xc, W3, e1, o3, hxn, b3⟩ := pc_push hgo2 (f, s.size, b) hgs.out.2.1 (by rw [hsz2]; exact hgs.out.1)
      have e1' : (Builtin.append_ #[77, 77] 77 #[.slice va n c, .slice (some ⟨W2.heap.size, 0, none⟩) 1 1]).run Tryz.prog (W2.alloc (.cells #[.int .i64 (f : Int), .int .i64 ((s.size : Int)), .bool b] 81)) = .ok (.slice xa xn xc) W3 := e1
      have hbx3 : W3.heap[w.heap.size]? = some (.cells #[.int .i64 (f : Int), .int .i64 ((s.size : Int)), .bool b] 81 (0, 0)) := by rw [b3.block _ (Nat.lt_succ_self _)]; exact hbx2
      have hB3 : Below w.heap.size w W3 := hB2.trans (b3.mono (Nat.le_succ _))
      obtain ⟨⟨u0, u1, u2⟩, v0, v1, v2⟩ := box3 hbx2
      have hfin : Hid (PcQ s w (.returned (.slice xa xn xc)) W3) := by
        obtain ⟨m', hm⟩ : ∃ m', m = m' + 1 := ⟨m - 1, by have := hQ.out.1.2.2.2.2.1; omega⟩
        have h1 := hQ.out.1.2.2.2.1
        have h2 : pcs m s f b = [(f, s.size, b)] := by
          rw [hm]
          rw [pcs_step]
          rw [dif_neg (by omega), hit]
        rw [h2] at h1
        refine ⟨xa, xc, ?_, ?_, hB3⟩
        · rw [h1, hxn, List.length_append, List.length_singleton]
        · rw [h1, List.length_append, List.length_singleton, ← hxn]
          exact o3
      clear hQ hbx hgs hlt hbx2 hsz2 hgo2 hB2 e1 o3 hxn b3 hbx3 hB3 hit
      go_wp2_with (at_builtin; refine Lib.wpList_append_run _ rfl _ _ _ _ rfl _ _ rfl rfl _ _ e1' ?_; clear e1')
      go_ret
      exact hfin.out
end Pa
end Go.Proofs.YtkknenmpdimdbaaGreatDoor
