import Derived.Test.YtddkefjcpgdomaaFrm7
namespace Go.Proofs.Ytddkefjcpgdomaa
open Go.RowKit
open FrMath (Hdr lb bd within Out ends cut Cut)

set_option maxRecDepth 100000 in
set_option maxHeartbeats 1000000 in
theorem feed_any (fb : Nat) (lim : Int) (p : Nat) (v0 : Value) (r0 c0 : List UInt8) (w : World) (g off0 cap0 : Nat)
    (hC0 : Cells w fb (frL lim p v0 (FrMath.look lim r0))) (hown0 : Own w (fb + 1) v0 r0) (hpr0 : proper lim r0) (hgl : g < w.heap.size) (hgf : g ≠ fb) (hgv : v0.ownBlock ≠ some g) (hck0 : Chk w g off0 c0) (hcc0 : c0.length ≤ cap0) (hcap0 : cap0 ≤ 9223372036854775807)
    (hsz : r0.length + c0.length ≤ 4194304) (hp : p ≤ 4194304) :
    Calls Try.prog 18 #[.pointer (some ⟨fb, 0, none⟩), .slice (some ⟨g, off0, none⟩) c0.length cap0] w fun e w' => FeedQ fb lim p v0 r0 c0 w e w' := by
  obtain ⟨⟨k0, k1, k2, k3, k4, k5⟩, _⟩ := cells6 hC0
  have hfb : fb < w.heap.size := hC0.lt
  rw [hpr0.1] at k5
  go_enter Try.func18, Try.ntmps18
  go_wp2_with fail
  go_step3
  go_wp2_with fail
  go_step3
  go_wp2_with fail
  clear k0 k1 k2 k3 k4 k5
  go_loopw [1, 6] (fun cv mv wr => ∃ (r c : List UInt8) (pp : Nat) (ms : List (List UInt8)) (v : Value) (off cap : Nat), cv = .slice (some ⟨g, off, none⟩) c.length cap ∧ c.length ≤ cap ∧ cap ≤ 9223372036854775807 ∧ Hid (Chk wr g off c) ∧ Hid (St fb lim (p + pp) v0 w wr v r (FrMath.look lim r) mv ms) ∧ Hid (proper lim r)
      ∧ Hid (Cut lim (r0 ++ c0) = FrMath.ahead ms pp (Cut lim (r ++ c))) ∧ Hid ((r0 ++ c0).drop pp = r ++ c ∧ pp + (r.length + c.length) = r0.length + c0.length ∧ 2 * ms.length ≤ pp)) (fun cv _ _ => lenV cv)
  case atStart =>
    refine ⟨r0, c0, 0, [], v0, off0, cap0, rfl, hcc0, hcap0, hck0, ⟨hC0, hown0, ownS_nil _ _, Fresh.refl _ _, Kept.all (Below.refl _ _) (fun b _ _ => rfl), fun b _ hh => by cases hh⟩, hpr0, ?_, ?_⟩
    · unfold Hid; rw [FrMath.ahead_nil]
    · unfold Hid; simp
  case round =>
    obtain ⟨r, c, pp, ms, v, off, cap, rfl, hcc, hcap, hck, hstH, hpr, hcut, hdr⟩ := hrel
    obtain ⟨ma, mc, rfl⟩ : ∃ a c, u6 = .slice a ms.length c := by
      rcases ownS_form hstH.out.list with ⟨rfl, rfl⟩ | ⟨g', cap', rfl⟩
      · exact ⟨_, _, rfl⟩
      · exact ⟨_, _, rfl⟩
    clear hC0 hown0 hck0 hcc0 hcap0
    by_cases hc0 : c.length = 0
    · have hcn : c = [] := List.eq_nil_of_length_eq_zero hc0
      subst hcn
      rw [List.append_nil] at hcut hdr
      have hst := hstH.out
      obtain ⟨⟨k0, k1, k2, k3, k4, k5⟩, _⟩ := cells6 hst.cells
      rw [hpr.out.1] at k5
      by_cases hm0 : ms.length = 0
      · have hm1 : ¬ 0 < ms.length := by omega
        clear hm0
        go_wp2_with fail
        go_quiet (fail)
        go_wp2_with fail
        go_ret2
        exact endOk hst hpr.out hcut.out hdr.out.1 _
      · have hm1 : 0 < ms.length := by omega
        have hSh : Hid (Calls Try.prog 29 #[.pointer (some ⟨fb, 0, none⟩)] wr fun e w' => e = .returned (.tuple #[]) ∧ ∃ v', v'.ownBlock = some (wr).heap.size ∧ Cells w' fb (frL lim (p + pp) v' (FrMath.look lim r)) ∧ Own w' (fb + 1) v' r ∧ Below fb (wr) w' ∧ ∀ b, b < (wr).heap.size → b ≠ fb → w'.heap[b]? = (wr).heap[b]?) := shrink_any fb lim (p + pp) _ _ _ _ hst.cells hst.own (by have := hdr.out.2.1; omega)
        clear hm0
        go_wp2_with fail
        refine hSh.out.mono ?_
        rintro e w9 ⟨rfl, v9, hv9, hC9, ho9, hB9, he9⟩
        have hst9 := hst.step hfb hC9 ho9 (Or.inr (fun b hb => by rw [hv9] at hb; injection hb with hb; omega)) (Kept.all hB9 he9)
        obtain ⟨⟨j0, j1, j2, j3, j4, j5⟩, _⟩ := cells6 hC9
        rw [hpr.out.1] at j5
        go_wp2_with fail
        go_quiet (fail)
        go_wp2_with fail
        go_ret2
        exact endOk hst9 hpr.out hcut.out hdr.out.1 _
    · have hsize : Hid (w.heap.size ≤ wr.heap.size) := hstH.out.kept.1.size
      have hgv' : v.ownBlock ≠ some g := hstH.out.fresh.ne hgl hgv
      obtain ⟨q, hq⟩ : ∃ q, q = if c.length < wants lim r then c.length else wants lim r := ⟨_, rfl⟩
      have hq1 : 1 ≤ q := by have := wants_pos hpr.out; rw [hq]; split <;> omega
      have hqc : q ≤ c.length := by rw [hq]; split <;> omega
      have hTk : Hid (Calls Try.prog 27 #[.pointer (some ⟨fb, 0, none⟩), .slice (some ⟨g, off, none⟩) c.length cap] wr fun e w' => TakeQ fb lim (p + pp) v r wr g c q e w') := by
        refine take_any fb lim (p + pp) v r _ wr g off cap c (wants lim r) q hstH.out.cells hstH.out.own rfl hq hq1 (Nat.lt_of_lt_of_le hgl hsize.out) hgf hgv' hck.out hcc hcap ?_ ?_ ?_
        · have := hdr.out.2.1; omega
        · exact (FrMath.look_ok lim r hpr.out.1).2.1
        · exact (FrMath.look_ok lim r hpr.out.1).2.2.1
      have hstep := take_step hpr.out hq
      have hcp : 0 < c.length := by omega
      have hlen1 : Hid ((r ++ c.take q).length + (c.drop q).length = r.length + c.length) := by unfold Hid; rw [List.length_append, List.length_take, List.length_drop]; omega
      have happ : Hid (r ++ c = (r ++ c.take q) ++ c.drop q) := by unfold Hid; rw [List.append_assoc, List.take_append_drop]
      have hmeas : Hid (c.length - q < c.length) := by unfold Hid; omega
      have hdl : Hid ((c.drop q).length = c.length - q) := List.length_drop
      clear hc0 hq
      go_wp2_with fail
      refine hTk.out.mono ?_
      rintro e w1 ⟨off1, cap1, v1, rfl, hcc1, hcap1, hck1, hC1, hown1, hfr1, hkp1⟩
      have hst1 := hstH.out.step hfb hC1 hown1 hfr1 hkp1
      rw [happ.out] at hcut hdr
      clear hTk hck hC1 hown1 hfr1 hkp1 happ
      generalize r ++ c.take q = r1 at *
      generalize c.drop q = c1 at *
      obtain ⟨ad, n, cp, rfl⟩ := own_slice hst1.own
      obtain ⟨hn1, hnc1⟩ := own_size hst1.own
      have hfb1 : fb < w1.heap.size := Nat.lt_of_lt_of_le hfb hst1.kept.1.size
      obtain ⟨⟨k0, k1, k2, k3, k4, k5⟩, x1, x2, x3, x4, x5⟩ := cells6 hst1.cells
      rcases hstep with hA | ⟨he, hB | ⟨hpr1, hne⟩⟩
      · obtain ⟨er, her⟩ : ∃ er, (FrMath.look lim r1).er = er := ⟨_, rfl⟩
        have hl0 : FrMath.look lim r1 = ⟨0, 0, er⟩ := by
          obtain ⟨e1, e2, _⟩ := FrMath.look_er lim r1 hA
          generalize FrMath.look lim r1 = x at *
          obtain ⟨a, b, d⟩ := x
          simp only at e1 e2 her
          subst e1 e2 her
          rfl
        have hcutA : Hid (Cut lim (r0 ++ c0) = FrMath.ahead ms pp ⟨[], 0, er⟩) := by unfold Hid; rw [hcut.out, cut_refused hA, her]
        have her0 : er ≠ 0 := by rw [← her]; exact hA
        have hd1 : ((er : Int) != 0) = true := by simp; omega
        rw [hl0] at k3 k4 k5 hst1
        have hst : St fb lim (p + pp) v0 w ((w1.setCell ⟨fb, 2, none⟩ (.slice none 0 0)).alloc (.cells #[.int .i64 0, .int .i64 (n : Int), .int .i64 0] 58)) (.slice none 0 0) [] ⟨0, 0, er⟩ (.slice ma ms.length mc) ms := by
          have hfb2 : fb < (w1.setCell ⟨fb, 2, none⟩ (.slice none 0 0)).heap.size := by rw [World.size_setCell]; exact hfb1
          refine hst1.step hfb ((hst1.cells.set 2 (by simp) _).of_block (Below.heap_alloc _ _ _ hfb2)) ⟨rfl, Or.inl ⟨rfl, rfl⟩⟩ (Or.inr (fun b hb => by cases hb)) (Kept.all ?_ (fun b hb hbn => ?_))
          · refine Below.alloc (Below.setCell (Below.refl _ _) ?_ _) (Nat.le_of_lt hfb2) _
            exact Nat.le_refl _
          · rw [Below.heap_alloc _ _ _ (by rw [World.size_setCell]; exact hb), Below.heap_setCell _ _ _ _ hbn]
        clear hA her hl0 hcut hdr hst1 hn1 hck1 hstH
        go_upto_region 11 with fail
        generalize ((w1.setCell ⟨fb, 2, none⟩ (.slice none 0 0)).alloc (.cells #[.int .i64 0, .int .i64 (n : Int), .int .i64 0] 58)) = W at *
        obtain ⟨⟨k0, k1, k2, k3, k4, k5⟩, _⟩ := cells6 hst.cells
        simp only at k5
        by_cases hm0 : ms.length = 0
        · have hm1 : ¬ 0 < ms.length := by omega
          clear hm0
          go_wp2_with fail
          go_quiet (fail)
          go_wp2_with fail
          go_ret2
          exact endBad hst her0 hcutA.out _
        · have hm1 : 0 < ms.length := by omega
          have hSh : Hid (Calls Try.prog 29 #[.pointer (some ⟨fb, 0, none⟩)] W fun e w' => e = .returned (.tuple #[]) ∧ ∃ v', v'.ownBlock = some (W).heap.size ∧ Cells w' fb (frL lim (p + pp) v' ⟨0, 0, er⟩) ∧ Own w' (fb + 1) v' [] ∧ Below fb (W) w' ∧ ∀ b, b < (W).heap.size → b ≠ fb → w'.heap[b]? = (W).heap[b]?) := shrink_any fb lim (p + pp) _ _ _ _ hst.cells hst.own (by simp)
          clear hm0
          go_wp2_with fail
          refine hSh.out.mono ?_
          rintro e w9 ⟨rfl, v9, hv9, hC9, ho9, hB9, he9⟩
          have hst9 := hst.step hfb hC9 ho9 (Or.inr (fun b hb => by rw [hv9] at hb; injection hb with hb; omega)) (Kept.all hB9 he9)
          obtain ⟨⟨j0, j1, j2, j3, j4, j5⟩, _⟩ := cells6 hC9
          simp only at j5
          go_wp2_with fail
          go_quiet (fail)
          go_wp2_with fail
          go_ret2
          exact endBad hst9 her0 hcutA.out _
      · have hlen : r1.length = n := hn1.symm
        have hfb2 : Hid (fb < w1.heap.size) := hfb1
        have hr2 : Hid (2 ≤ r1.length) := by have := (FrMath.look_ok lim r1 he).1; rw [hB] at this; exact this
        have hkg1 : Hid (w1.heap[g]? = w.heap[g]?) := hst1.kept.2 g hgl hgf hgv
        have hcutB : Hid (Cut lim (r0 ++ c0) = FrMath.ahead (ms ++ [r1]) (pp + r1.length) (Cut lim c1)) := by unfold Hid; rw [hcut.out, cut_whole hB, FrMath.ahead_snoc]
        have hst2 : St fb lim (p + pp) v0 w (w1.alloc (.cells #[.int .i64 0, .int .i64 (n : Int), .int .i64 0] 58)) (.slice ad n cp) r1 ⟨0, n, 0⟩ (.slice ma ms.length mc) ms := by
          rw [hB, hlen] at hst1
          exact hst1.step hfb (hst1.cells.of_block (Below.heap_alloc _ _ _ hfb1)) (World.ownsRow.alloc hst1.own _) (Fresh.refl _ _) (Kept.all ((Below.refl _ _).alloc (Nat.le_of_lt hfb1) _) (fun b hb _ => Below.heap_alloc _ _ _ hb))
        have hGv : ∀ m, Hid (Calls Try.prog 28 #[.pointer (some ⟨fb, 0, none⟩)] ((w1.alloc (.cells #[.int .i64 0, .int .i64 (n : Int), .int .i64 0] 58)).drewN m) fun e w' => e = .returned (.string (S r1)) ∧ ∃ v', v'.ownBlock = (Value.slice ad n cp).ownBlock ∧ Cells w' fb (frL lim (p + pp + r1.length) v' (FrMath.look lim [])) ∧ Own w' (fb + 1) v' [] ∧ Below fb ((w1.alloc (.cells #[.int .i64 0, .int .i64 (n : Int), .int .i64 0] 58)).drewN m) w' ∧ ∀ b, b < ((w1.alloc (.cells #[.int .i64 0, .int .i64 (n : Int), .int .i64 0] 58)).drewN m).heap.size → b ≠ fb → w'.heap[b]? = ((w1.alloc (.cells #[.int .i64 0, .int .i64 (n : Int), .int .i64 0] 58)).drewN m).heap[b]?) := fun m => give_any fb lim (p + pp) _ r1 _ ((w1.alloc (.cells #[.int .i64 0, .int .i64 (n : Int), .int .i64 0] 58)).drewN m) hst2.cells hst2.own (by have := hdr.out.2.1; omega) (by have := hdr.out.2.1; have := hlen1.out; omega)
        have hEq := fun W => eq_header 0 (n : Int) 0 0 (n : Int) 0 W
        simp only [beq_self_eq_true, Bool.and_self] at hEq
        rw [hB, hlen] at k3 k4 k5
        simp only at k3 k4 k5
        obtain ⟨ol1, ol2, ol3⟩ := hdr.out
        have hl2 : Hid (ms.length ≤ 4194304) := by unfold Hid; omega
        clear hst1 hn1 hB hlen
        go_wp2_with fail
        go_quiet (fail)
        go_wp2_with fail
        refine (hGv _).out.mono ?_
        rintro e w5 ⟨rfl, v5, hv5, hC5, ho5, hB5, he5⟩
        have hst2' : St fb lim (p + pp) v0 w ((w1.alloc (.cells #[.int .i64 0, .int .i64 (n : Int), .int .i64 0] 58)).drewN nq) (.slice ad n cp) r1 ⟨0, n, 0⟩ (.slice ma ms.length mc) ms := ⟨hst2.cells, hst2.own, hst2.list, hst2.fresh, ⟨below_drewN hst2.kept.1 _, hst2.kept.2⟩, hst2.apart⟩
        have hst5 := hst2'.step hfb hC5 ho5 (Or.inl hv5) (Kept.all hB5 he5)
        have hn5 : w.heap.size ≤ w5.heap.size := hst5.kept.1.size
        clear hst2 hst2' hGv hC5 ho5 hB5 he5 hv5 k0 k1 k2 k3 k4 k5 x1 x2 x3 x4 x5
        go_wp2_with (at_builtin; refine push_text _ rfl _ _ rfl w.heap.size _ ms r1 _ rfl rfl ?_ ?_ ?_ hl2.out ?_; (exact World.ownsRow.alloc hst5.list _); (exact heap_alloc_new _ _); (simp; omega); intro g6 cap6 w6 hown6 hgr6 hlie6 hb6)
        have hst6 := hst5.push hfb hown6 hgr6 hlie6 hb6
        rw [Nat.add_assoc] at hst6
        have hck6 : Chk w6 g off1 c1 := hck1.of_block (by rw [hst6.kept.2 g hgl hgf hgv, hkg1.out])
        refine ⟨⟨[], c1, pp + r1.length, ms ++ [r1], v5, off1, cap1, by rw [hdl.out], by rw [hdl.out]; exact hcc1, hcap1, hck6, hst6, proper_nil lim, hcutB, ?_⟩, hmeas.out⟩
        unfold Hid
        refine ⟨?_, ?_, ?_⟩
        · rw [← List.drop_drop, ol1, List.drop_left]
          rfl
        · simp
          have := hlen1.out
          omega
        · rw [List.length_append]
          have := hr2.out
          simp
          omega
      · have hgl1 : Hid (g < w1.heap.size) := Nat.lt_of_lt_of_le hgl hst1.kept.1.size
        have hst2 : St fb lim (p + pp) v0 w (w1.alloc (.cells #[.int .i64 0, .int .i64 (n : Int), .int .i64 0] 58)) (.slice ad n cp) r1 (FrMath.look lim r1) (.slice ma ms.length mc) ms :=
          hst1.step hfb (hst1.cells.of_block (Below.heap_alloc _ _ _ hfb1)) (World.ownsRow.alloc hst1.own _) (Fresh.refl _ _) (Kept.all ((Below.refl _ _).alloc (Nat.le_of_lt hfb1) _) (fun b hb _ => Below.heap_alloc _ _ _ hb))
        have hst2' : Hid (St fb lim (p + pp) v0 w (w1.alloc (.cells #[.int .i64 0, .int .i64 (n : Int), .int .i64 0] 58)) (.slice ad n cp) r1 (FrMath.look lim r1) (.slice ma ms.length mc) ms) := hst2
        have hpr1' : Hid (proper lim r1) := hpr1
        rw [← hn1] at hne
        have hEq : ∀ W, (binOp .eql 58 (.agg #[.int .i64 ((FrMath.look lim r1).mi : Int), .int .i64 ((FrMath.look lim r1).sz : Int), .int .i64 0]) (.agg #[.int .i64 0, .int .i64 (n : Int), .int .i64 0])).run Try.prog W = .ok (.bool false) W := fun W => by
          rw [eq_header]
          have : (((FrMath.look lim r1).sz : Int) == (n : Int)) = false := by rw [beq_eq_false_iff_ne]; omega
          rw [this]
          simp
        rw [he] at k5
        obtain ⟨ol1, ol2, ol3⟩ := hdr.out
        have ol' : Hid (List.drop pp (r0 ++ c0) = r1 ++ c1 ∧ 2 * ms.length ≤ pp) := ⟨ol1, ol3⟩
        generalize (FrMath.look lim r1).mi = mi at *
        generalize (FrMath.look lim r1).sz = sz at *
        clear hst1 hst2 hn1 hpr1 ol1 ol3 he hne
        go_wp2_with fail
        go_quiet (fail)
        go_wp2_with fail
        have hck6 : Chk ((w1.alloc (.cells #[.int .i64 0, .int .i64 (n : Int), .int .i64 0] 58)).drewN nq) g off1 c1 := hck1.of_block (Below.heap_alloc w1 _ _ hgl1.out)
        have s := hst2'.out
        refine ⟨⟨r1, c1, pp, ms, .slice ad n cp, off1, cap1, by rw [hdl.out], by rw [hdl.out]; exact hcc1, hcap1, hck6, ⟨s.cells, s.own, s.list, s.fresh, ⟨below_drewN s.kept.1 _, s.kept.2⟩, s.apart⟩, hpr1', hcut, ?_⟩, hmeas.out⟩
        unfold Hid
        refine ⟨ol'.out.1, ?_, ol'.out.2⟩
        have := hlen1.out
        omega
end Go.Proofs.Ytddkefjcpgdomaa
