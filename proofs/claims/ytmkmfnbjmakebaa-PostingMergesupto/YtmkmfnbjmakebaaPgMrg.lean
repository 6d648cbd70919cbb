import Derived.Test.YtmkmfnbjmakebaaPgUnc
import Derived.Test.YtmkmfnbjmakebaaPgSeN
namespace Go.Proofs.Ytmkmfnbjmakebaa
open Go.RowKit Go.Sort Go.Lib Go.Shelf
open PgMath (Inc setOf cnt)
open PgHpM (Hd ky kf swpH Hp Gd sw)
open PgCnM (occ stepL Inn Out atl)
open PgSeq (Mv Still SeqT range_t range_tn)
set_option linter.unusedVariables false
set_option maxRecDepth 100000

/-- What Merge has made: the box of its sets, in the blocks from lo to hi. -/
def Mrg (W : World) (lo hi bx : Nat) (Qs : List Hd) : Prop :=
  (∃ g, W.cell? ⟨bx, 0, none⟩ = some (.slice (some ⟨g, 0, none⟩) Qs.length Qs.length) ∧ lo ≤ g ∧ g < hi ∧ SRow W (some ⟨g, 0, none⟩) Qs) ∧ lo ≤ bx ∧ bx < hi ∧ hi ≤ W.heap.size ∧
  ∀ h ∈ Qs, 0 < h.2.2.length → HdOk W hi h ∧ ∀ x, h.1 = some x → lo ≤ x.block
theorem Mrg.keep {W W' : World} {lo hi bx : Nat} {Qs : List Hd} (h : Mrg W lo hi bx Qs) (hs : W.heap.size ≤ W'.heap.size) (hb : ∀ k, lo ≤ k → k < hi → W'.heap[k]? = W.heap[k]?) : Mrg W' lo hi bx Qs := by
  obtain ⟨⟨g, h1, h2, h3, h4⟩, h5, h6, h7, h8⟩ := h
  refine ⟨⟨g, ?_, h2, h3, fun i hi' => ?_⟩, h5, h6, by omega, fun x hx hl => ?_⟩
  · rw [World.cell?_of_block (w := W) (hb bx h5 h6)]; exact h1
  · obtain ⟨b, off, e, q⟩ := h4 i hi'
    injection e with e
    injection e with e1 e2
    subst e1 e2
    refine ⟨g, 0, rfl, ?_⟩
    rw [World.cell?_of_block (w := W) (hb g h2 h3)]
    exact q
  · obtain ⟨q1, q2⟩ := h8 x hx hl
    refine ⟨⟨q1.1.of_block (fun k hk _ => ?_), q1.2⟩, q2⟩
    obtain ⟨a, c, l⟩ := x
    cases a with
    | none => cases hk
    | some y => simp at hk; subst hk; exact hb _ (q2 y rfl) (q1.2.2.2 y rfl)
theorem laid_row_alloc (w : World) (n : Nat) (Ss : List Hd) (hn : Ss.length = n) : Laid w w.heap.size Ss [] ((w.alloc (.cells (madeCells #[.slice none 0 0] n) 23)).alloc (.cells #[.slice (some ⟨w.heap.size, 0, none⟩) n n] 22)) := by
  refine ⟨rfl, Nat.zero_le _, fun h hh => by simp at hh, ?_, ((Below.refl _ _).alloc (Nat.le_refl _) _).alloc (by simp) _⟩
  have h1 := World.rowIs_made w (.slice none 0 0) n 23
  subst hn
  exact World.rowIs.alloc (World.rowIs.congr h1 (fun t _ => by simp)) _

set_option maxRecDepth 1000000 in
set_option maxHeartbeats 4000000 in
theorem merge_any (sa : Option Addr) (Ss : List Hd) (sc : Nat) (w : World) (hr : SRow w sa Ss) (hok : ∀ x ∈ Ss, Rd w x.1 x.2.1 x.2.2) (hl : Ss.length * 24 ≤ 140737488355328) :
    Calls Try.prog 15 #[.slice sa Ss.length sc] w fun e w' => ∃ bx Qs, e = .returned (.func (.func 29) #[] #[.pointer (some ⟨bx, 0, none⟩)]) ∧ Mrg w' w.heap.size w'.heap.size bx Qs ∧ lsts Qs = (lsts Ss).map setOf ∧ Below w.heap.size w w' := by
  have hS : Hid (SRow w sa Ss ∧ (∀ x ∈ Ss, Rd w x.1 x.2.1 x.2.2) ∧ Ss.length * 24 ≤ 140737488355328) := ⟨hr, hok, hl⟩
  have sb : (Ss.length : Int) ≤ 17592186044416 := by omega
  obtain ⟨n, hn⟩ : ∃ n, Ss.length = n := ⟨_, rfl⟩
  have hn' : Hid (Ss.length = n) := hn
  have hmk := make_sets n (by rw [← hn]; exact hl)
  have hL0 : Hid (Laid w w.heap.size Ss [] ((w.alloc (.cells (madeCells #[.slice none 0 0] n) 23)).alloc (.cells #[.slice (some ⟨w.heap.size, 0, none⟩) n n] 22)) ∧ Boxed ((w.alloc (.cells (madeCells #[.slice none 0 0] n) 23)).alloc (.cells #[.slice (some ⟨w.heap.size, 0, none⟩) n n] 22)) (w.heap.size + 1) 22 (.slice (some ⟨w.heap.size, 0, none⟩) n n)) := by
    refine ⟨laid_row_alloc w n Ss hn, ?_⟩
    have := Boxed.new (w.alloc (.cells (madeCells #[.slice none 0 0] n) 23)) 22 (.slice (some ⟨w.heap.size, 0, none⟩) n n)
    rwa [World.size_alloc] at this
  rw [hn] at sb ⊢
  clear hr hok hl hn
  go_enter Try.func15, Try.ntmps15
  go_wp2_with fail
  generalize ((w.alloc (.cells (madeCells #[.slice none 0 0] n) 23)).alloc (.cells #[.slice (some ⟨w.heap.size, 0, none⟩) n n] 22)) = W1 at *
  clear hmk
  go_loopw [11] (fun ivv wr => ∃ (j : Nat) (Qs : List Hd), ivv = .int .i64 (j : Int) ∧ j ≤ n ∧ Hid (Qs.length = j ∧ Laid w w.heap.size Ss Qs wr ∧ Boxed wr (w.heap.size + 1) 22 (.slice (some ⟨w.heap.size, 0, none⟩) n n) ∧ ∀ h ∈ Qs, 0 < h.2.2.length → ∀ x, h.1 = some x → w.heap.size ≤ x.block)) (fun ivv _ => n - (intOf ivv).toNat)
  case atStart => exact ⟨0, [], rfl, Nat.zero_le _, rfl, hL0.out.1, hL0.out.2, fun h hh => by simp at hh⟩
  case round =>
    obtain ⟨j, Qs, rfl, hj, hQ⟩ := hrel
    have j0 : (0 : Int) ≤ (j : Int) := Int.natCast_nonneg _
    by_cases hlt : j < n
    · have j1 : (j : Int) < (n : Int) := Int.ofNat_lt.2 hlt
      have hjS : j < Ss.length := by rw [hn'.out]; exact hlt
      have hBw := hQ.out.2.1.2.2.2.2
      obtain ⟨b, off, rfl, c1⟩ := (hS.out.1.below hBw) j hjS
      have hx := (hS.out.2.1 _ (List.getElem_mem hjS)).below hBw
      have hd : Below wr.heap.size wr wr.drew := below_drewN _ _ 1
      have hOf : Hid (Calls Try.prog 11 #[.slice Ss[j].1 Ss[j].2.2.length Ss[j].2.1] wr.drew fun e w' => ∃ v, e = .returned v ∧ OwnI w' wr.drew.heap.size v (setOf Ss[j].2.2) ∧ Below wr.drew.heap.size wr.drew w') := of_any _ _ _ wr.drew (hx.below hd).1 hx.2.2.2
      have hbx : Hid (∀ W, Below wr.heap.size wr W → W.cell? ⟨w.heap.size + 1, 0, none⟩ = some (.slice (some ⟨w.heap.size, 0, none⟩) n n) ∧ (∃ y, W.cell? ⟨w.heap.size, j, none⟩ = some y) ∧ W.frozen? ⟨w.heap.size, j, none⟩ = false) := fun W hW => by
        have h6 := World.rowIs.of_block hQ.out.2.1.2.2.2.1 (hW.block _ (World.rowIs.lt hQ.out.2.1.2.2.2.1))
        have h7 : Boxed W (w.heap.size + 1) 22 (.slice (some ⟨w.heap.size, 0, none⟩) n n) := (hW.block _ hQ.out.2.2.1.lt).trans hQ.out.2.2.1
        exact ⟨h7.cell, ⟨_, World.rowIs.cell h6 hjS⟩, World.rowIs.frozen h6 j⟩
      have hput : Hid (∀ w2 a2 n2 c2, Below wr.drew.heap.size wr.drew w2 → OwnI w2 wr.drew.heap.size (.slice a2 n2 c2) (setOf Ss[j].2.2) → n2 = (setOf Ss[j].2.2).length ∧ (Qs ++ [(a2, c2, setOf Ss[j].2.2)]).length = j + 1 ∧ Laid w w.heap.size Ss (Qs ++ [(a2, c2, setOf Ss[j].2.2)]) (w2.setCell ⟨w.heap.size, j, none⟩ (.slice a2 (setOf Ss[j].2.2).length c2)) ∧ Boxed (w2.setCell ⟨w.heap.size, j, none⟩ (.slice a2 (setOf Ss[j].2.2).length c2)) (w.heap.size + 1) 22 (.slice (some ⟨w.heap.size, 0, none⟩) n n) ∧ ∀ h ∈ Qs ++ [(a2, c2, setOf Ss[j].2.2)], 0 < h.2.2.length → ∀ x, h.1 = some x → w.heap.size ≤ x.block) := fun w2 a2 n2 c2 hb2 ho2 => by
        obtain ⟨q1, q2, q3, q4⟩ := hQ.out
        subst q1
        have hbb : Below wr.heap.size wr w2 := hd.trans (hb2.mono hd.size)
        have hlen := (ownI_row ho2).2
        subst hlen
        have hsl := PgMath.setOf_len Ss[Qs.length].2.2
        have hxx := hx.2.2.2
        refine ⟨rfl, by simp, q2.put hjS hbb (Nat.le_refl _) (Rd.of_own ho2 (by omega)), ?_, fun h hh hl x hx' => ?_⟩
        · show (w2.setCell _ _).heap[w.heap.size + 1]? = _
          rw [Below.heap_setCell _ _ _ _ (by show w.heap.size + 1 ≠ w.heap.size; omega)]
          exact (hbb.block _ q3.lt).trans q3
        · rcases List.mem_append.1 hh with hh | hh
          · exact q4 h hh hl x hx'
          · rw [List.mem_singleton] at hh
            subst hh
            dsimp only at hx' hl
            subst hx'
            have h9 := ownI_at ho2 (k := x.block) (by
              rcases ho2.2 with ⟨e, _⟩ | ⟨g, cap, cur, e, _⟩
              · cases e
              · injection e with e; injection e with e; subst e; rfl)
            have := hBw.size
            have := hd.size
            omega
      have hlt' : Hid (j < n) := hlt
      have cd := (hbx.out wr.drew hd).1
      have hd' : Hid (Below wr.heap.size wr wr.drew) := hd
      generalize hxx : Ss[j] = x at *
      obtain ⟨xa, xc, xl⟩ := x
      simp only [hv] at c1
      dsimp only at hOf hput
      clear hQ hj hlt hjS hx hL0 hBw hd hxx
      go_wp2_with fail
      go_region_held3 (fun w' => w'.cell? ⟨w.heap.size + 1, 0, none⟩ = some (.slice (some ⟨w.heap.size, 0, none⟩) n n))
        (first | exact cs3 | exact cc2 | exact cd)
        (first | (go_at_call 11; refine hOf.out.mono ?_; rintro e w2 ⟨v2, rfl, o2, b2⟩; obtain ⟨a2, n2, c2, rfl⟩ := ownI_slice o2; obtain ⟨hn2, hfin⟩ := hput.out w2 a2 n2 c2 b2 o2; subst hn2; obtain ⟨cc2, ⟨y1, hy1⟩, hy2⟩ := hbx.out w2 (hd'.out.trans (b2.mono hd'.out.size)); have hfin' : Hid _ := hfin; have cs3 := hfin.2.2.1.cell; clear hfin o2 b2))
      clear cd cc2 cs3
      go_wp2_with fail
      go_roundw
      case rel => exact ⟨j + 1, _, by simp, hlt'.out, hfin'⟩
      case measure => have := hlt'.out; simp [intOf]; omega
    · have e : j = n := by omega
      subst e
      have j1 : ¬ (j : Int) < (j : Int) := by omega
      have hE : Hid (∃ Qs, Mrg wr w.heap.size wr.heap.size (w.heap.size + 1) Qs ∧ lsts Qs = (lsts Ss).map setOf ∧ Below w.heap.size w wr) := by
        obtain ⟨q1, ⟨r1, r2, r3, r4, r5⟩, q3, q4⟩ := hQ.out
        have hl : Qs.length = Ss.length := q1.trans hn'.out.symm
        have hD : lsts Qs = (lsts Ss).map setOf := by rw [r1, hl, List.take_length]
        refine ⟨Qs, ⟨⟨w.heap.size, by rw [q1]; exact q3.cell, Nat.le_refl _, World.rowIs.lt r4, fun i hi => ⟨w.heap.size, 0, rfl, ?_⟩⟩, by omega, q3.lt, Nat.le_refl _, fun h hh hp => ⟨?_, q4 h hh hp⟩⟩, hD, r5⟩
        · have h6 := World.rowIs.cell r4 (i := i) (by omega)
          rw [Nat.zero_add, h6, if_pos hi]
          simp [List.getD, hi]
        · have hR := r3 h hh
          have hI : Inc h.2.2 := by
            have : h.2.2 ∈ lsts Qs := List.mem_map_of_mem hh
            rw [hD] at this
            obtain ⟨l, _, e⟩ := List.mem_map.1 this
            rw [← e]
            exact PgMath.setOf_inc l
          refine ⟨hR.1, ⟨hp, hR.2.1, hR.2.2.1, by have := hR.2.2.2; omega⟩, hI, fun y hy => ?_⟩
          obtain ⟨b, off, e1, e2⟩ := hR.1 0 hp
          rw [hy] at e1
          injection e1 with e1
          subst e1
          exact World.block_lt_of_cell? wr _ e2
      clear hj hlt hQ hL0
      go_wp2_with fail
      go_ret
      obtain ⟨Qs, hE1, hE2, hE3⟩ := hE.out
      exact ⟨_, rfl, Qs, hE1, hE2, hE3⟩
end Go.Proofs.Ytmkmfnbjmakebaa
