import Derived.Test.YtkanoloddpigdaaDoorKeQ
import Derived.Deep.RegionHeld3
namespace Go.Proofs.YtkanoloddpigdaaDoor
namespace Ke
open Go.RowKit Go.Lib
open Du (PRow DRow PX sd sd_len drow_at pV pV_len xV_len prow_at CpQ copyDN_any PO)
set_option linter.unusedVariables false
set_option linter.unusedSimpArgs false
set_option maxRecDepth 100000

theorem po_row {B : Nat} {r : PX} {W : World} (h : PO B r W) : PRow W r.1 r.2.2 ∧ r.2.2.length + 1 ≤ r.2.1 ∧ r.2.1 ≤ maxLen := by
  obtain ⟨g, e, h1⟩ := h
  obtain ⟨a, c, h2, h3, h4, h5⟩ := h1.row pV_len
  injection h2 with e1 _ e2
  subst e1 e2
  rw [List.length_append] at h3
  rw [e]
  exact ⟨h5.front, h3, h4⟩
/-- copyDN's answer is a name that says the same. -/
theorem cp_row {w w' : World} {L : List PX} {n : Nat} {a : Option Addr} {c : Nat} {Os : List PX} (h : CpQ w L n a c Os w') (hn : L.length = n) : DRow w' a Os ∧ sd Os = sd L ∧ Os.length = n ∧ Below w.heap.size w w' := by
  obtain ⟨h1, h2, h3, ⟨g, zg, rfl, h4, h4'⟩, h5, h6, h7, h8⟩ := h
  obtain ⟨a, c, e, _, _, hr⟩ := h4.row xV_len
  injection e with e1 _ e2
  subst e1
  refine ⟨⟨hr.front, fun r hr => ⟨(po_row (h6 r hr)).1, by have := (po_row (h6 r hr)).2.1; omega, (po_row (h6 r hr)).2.2⟩⟩, ?_, h1, h7⟩
  unfold Du.sd
  refine List.ext_getElem (by rw [List.length_map, List.length_map, h1, hn]) (fun i q1 q2 => ?_)
  rw [List.getElem_map, List.getElem_map]
  exact h5 i (by simpa using q1) (by simpa using q2)
theorem szs_of {L M : List PX} (h : Szs L) (e : sd M = sd L) : Szs M := by
  have key : ∀ r ∈ M, ∃ r' ∈ L, r'.2.2 = r.2.2 := fun r hr => by
    have h1 : r.2.2 ∈ sd M := List.mem_map.2 ⟨r, hr, rfl⟩
    rw [e] at h1
    obtain ⟨r', h2, h3⟩ := List.mem_map.1 h1
    exact ⟨r', h2, h3⟩
  have hl : M.length = L.length := by rw [← sd_len M, e, sd_len]
  refine ⟨fun r hr => ?_, fun r hr => ?_, by rw [hl]; exact h.2.2⟩
  · obtain ⟨r', h2, h3⟩ := key r hr
    rw [← h3]
    exact h.1 r' h2
  · obtain ⟨r', h2, h3⟩ := key r hr
    rw [← h3]
    exact h.2.1 r' h2
/-- Key of a copy. -/
theorem copy_key (sa : Option Addr) (sc n : Nat) (L : List PX) (w : World) (hn : L.length = n) (hr : DRow w sa L) (hz : Szs L) (hG : ErrsG w) :
    Calls Tryd.prog 7 #[.slice sa n sc] w fun e w' => ∃ a c, e = .returned (.slice a n c) ∧ Below w.heap.size w w' ∧ Calls Tryd.prog 6 #[.slice a n c] w' fun e w'' => KeyQ w' (sd L) n e w'' := by
  refine (copyDN_any sa sc L n w hn hr (fun r hr => by have := hz.2.1 r hr; omega) (by have := hz.2.2; omega)).mono ?_
  rintro e w' ⟨a, c, Os, rfl, h⟩
  obtain ⟨h1, h2, h3, h4⟩ := cp_row h hn
  have hz' := szs_of hz h2
  refine ⟨a, c, rfl, h4, ?_⟩
  rw [← h2]
  exact key_any a c n Os w' (hG.below h4) h3 h1 hz'.1 hz'.2.1 (by have := hz'.2.2; omega)
theorem keys_at (D : List (List PR)) (i : Nat) (h : i < D.length) : (keys D)[i]'(by unfold keys; rw [List.length_reverse, List.length_map]; exact h) = keyTx (D[D.length - 1 - i]'(by omega)) := by
  unfold keys
  rw [List.getElem_reverse]
  simp
theorem keys_len (D : List (List PR)) : (keys D).length = D.length := by unfold keys; rw [List.length_reverse, List.length_map]

set_option maxHeartbeats 4000000 in
theorem dnSame_walk (sa sb : Option Addr) (sc tc n m : Nat) (L M : List PX) (w : World) (hG : ErrsG w) (hn : L.length = n) (hm : M.length = m) (hr : DRow w sa L) (hs : DRow w sb M) (hz : Szs L) (hy : Szs M) :
    Calls Tryd.prog 3 #[.slice sa n sc, .slice sb m tc] w fun e w' => e = .returned (.bool true) ∧ Below w.heap.size w w' := by
  have nb : (n : Int) ≤ 1073741824 := by have := hz.2.2; omega
  have mb : (m : Int) ≤ 1073741824 := by have := hy.2.2; omega
  have hn' : Hid (L.length = n) := hn
  have hm' : Hid (M.length = m) := hm
  have hr' : Hid (DRow w sa L) := hr
  have hs' : Hid (DRow w sb M) := hs
  have hz' : Hid (Szs L) := hz
  have hy' : Hid (Szs M) := hy
  have hG' : Hid (ErrsG w) := hG
  have c1 : Hid (Calls Tryd.prog 5 #[.slice sa n sc] w fun e w' => SdQ w (OkD (sd L)) e w') := sound_any sa sc n L w hn hr hz
  clear hn hm hr hs hz hy hG
  go_enter Tryd.func3, Tryd.ntmps3
  go_wp2_with fail
  refine c1.out.mono ?_
  rintro e W1 ⟨⟨b1, rfl, h1⟩, hb1⟩
  have hB1 : Hid (Below w.heap.size w W1) := hb1
  have h1' : Hid (b1 = true ↔ OkD (sd L)) := h1
  have c2 : Hid (Calls Tryd.prog 5 #[.slice sb m tc] W1 fun e w' => SdQ W1 (OkD (sd M)) e w') := sound_any sb tc m M W1 hm'.out (hs'.out.below hb1) hy'.out
  clear c1 h1 hb1
  go_wp2_with fail
  refine c2.out.mono ?_
  rintro e W2 ⟨⟨b2, rfl, h2⟩, hb2⟩
  have hB2 : Hid (Below w.heap.size w W2) := hB1.out.trans (hb2.mono hB1.out.size)
  have h2' : Hid (b2 = true ↔ OkD (sd M)) := h2
  have c3 : Hid (Calls Tryd.prog 7 #[.slice sa n sc] W2 fun e w' => ∃ a c, e = .returned (.slice a n c) ∧ Below W2.heap.size W2 w' ∧ Calls Tryd.prog 6 #[.slice a n c] w' fun e w'' => KeyQ w' (sd L) n e w'') := copy_key sa sc n L W2 hn'.out (hr'.out.below hB2.out) hz'.out (hG'.out.below hB2.out)
  clear c2 h2 hb2 hB1
  go_wp2_with fail
  refine c3.out.mono ?_
  rintro e W3 ⟨a3, k3, rfl, hb3, c4⟩
  have hB3 : Hid (Below w.heap.size w W3) := hB2.out.trans (hb3.mono hB2.out.size)
  have c4' : Hid (Calls Tryd.prog 6 #[.slice a3 n k3] W3 fun e w'' => KeyQ W3 (sd L) n e w'') := c4
  clear c3 c4 hb3 hB2
  go_wp2_with fail
  refine c4'.out.mono ?_
  rintro e W4 ⟨hb4, hK4⟩
  have hB4 : Hid (Below w.heap.size w W4) := hB3.out.trans (hb4.mono hB3.out.size)
  obtain ⟨ka, kn, kc, ke, rfl, hk4⟩ : ∃ ka kn kc ke, e = .returned (.tuple #[.slice ka kn kc, ke]) ∧ ((b1 = true ∧ ke = .nilIface ∧ kn = n ∧ OkD (sd L) ∧ Row W4 ka (keys (sd L))) ∨ (b1 = false ∧ ∃ t u, ke = .iface t u)) := by
    rcases hK4 with ⟨hok, ka, kc, rfl, ho⟩ | ⟨hno, t, u, rfl⟩
    · exact ⟨ka, n, kc, _, rfl, Or.inl ⟨h1'.out.2 hok, rfl, rfl, hok, (ownS_row ho).1⟩⟩
    · refine ⟨none, 0, 0, _, rfl, Or.inr ⟨?_, t, u, rfl⟩⟩
      cases b1 with
      | true => exact (hno (h1'.out.1 rfl)).elim
      | false => rfl
  have hk4' : Hid ((b1 = true ∧ ke = .nilIface ∧ kn = n ∧ OkD (sd L) ∧ Row W4 ka (keys (sd L))) ∨ (b1 = false ∧ ∃ t u, ke = .iface t u)) := hk4
  have c5 : Hid (Calls Tryd.prog 7 #[.slice sb m tc] W4 fun e w' => ∃ a c, e = .returned (.slice a m c) ∧ Below W4.heap.size W4 w' ∧ Calls Tryd.prog 6 #[.slice a m c] w' fun e w'' => KeyQ w' (sd M) m e w'') := copy_key sb tc m M W4 hm'.out (hs'.out.below hB4.out) hy'.out (hG'.out.below hB4.out)
  clear c4' hb4 hB3 hK4 hk4 h1'
  go_wp2_with fail
  refine c5.out.mono ?_
  rintro e W5 ⟨a5, k5, rfl, hb5, c6⟩
  have hB5 : Hid (Below w.heap.size w W5 ∧ Below W4.heap.size W4 W5) := ⟨hB4.out.trans (hb5.mono hB4.out.size), hb5⟩
  have c6' : Hid (Calls Tryd.prog 6 #[.slice a5 m k5] W5 fun e w'' => KeyQ W5 (sd M) m e w'') := c6
  clear c5 c6 hb5
  go_wp2_with fail
  refine c6'.out.mono ?_
  rintro e W6 ⟨hb6, hK6⟩
  have hB6 : Hid (Below w.heap.size w W6 ∧ Below W4.heap.size W4 W6) := ⟨hB5.out.1.trans (hb6.mono hB5.out.1.size), hB5.out.2.trans (hb6.mono hB5.out.2.size)⟩
  obtain ⟨la, ln, lc, le, rfl, hk6⟩ : ∃ la ln lc le, e = .returned (.tuple #[.slice la ln lc, le]) ∧ ((b2 = true ∧ le = .nilIface ∧ ln = m ∧ OkD (sd M) ∧ Row W6 la (keys (sd M))) ∨ (b2 = false ∧ ∃ t u, le = .iface t u)) := by
    rcases hK6 with ⟨hok, ka, kc, rfl, ho⟩ | ⟨hno, t, u, rfl⟩
    · exact ⟨ka, m, kc, _, rfl, Or.inl ⟨h2'.out.2 hok, rfl, rfl, hok, (ownS_row ho).1⟩⟩
    · refine ⟨none, 0, 0, _, rfl, Or.inr ⟨?_, t, u, rfl⟩⟩
      cases b2 with
      | true => exact (hno (h2'.out.1 rfl)).elim
      | false => rfl
  clear c6' hb6 hB5 hK6 h2'
  rcases hk4'.out with ⟨rfl, rfl, rfl, hokL, hrowK⟩ | ⟨rfl, t1, u1, rfl⟩
  · rcases hk6 with ⟨rfl, rfl, rfl, hokM, hrowL⟩ | ⟨rfl, t2, u2, rfl⟩
    · have hrK : Hid (Row W6 ka (keys (sd L)) ∧ OkD (sd L)) := ⟨hrowK.below hB6.out.2, hokL⟩
      have hrL : Hid (Row W6 la (keys (sd M)) ∧ OkD (sd M)) := ⟨hrowL, hokM⟩
      clear hrowK hokL hrowL hokM hk4'
      go_wp2_with fail
      go_loopw [11] (fun iv wr => ∃ i : Nat, i ≤ kn ∧ i ≤ ln ∧ iv = .int .i64 (i : Int) ∧ Hid (Below W6.heap.size W6 wr)) (fun iv _ => kn - (intOf iv).toNat)
      case atStart => exact ⟨0, Nat.zero_le _, Nat.zero_le _, rfl, Below.refl _ _⟩
      case round =>
        obtain ⟨i, hi1, hi2, rfl, hR⟩ := hrel
        have i0 : (0 : Int) ≤ (i : Int) := Int.natCast_nonneg _
        have hBw : Hid (Below w.heap.size w wr) := hB6.out.1.trans (hR.out.mono hB6.out.1.size)
        by_cases hk : i < kn
        · have k1 : (i : Int) < (kn : Int) := Int.ofNat_lt.2 hk
          by_cases hl : i < ln
          · have l1 : (i : Int) < (ln : Int) := Int.ofNat_lt.2 hl
            obtain ⟨x, hx⟩ : ∃ x, x = kn - 1 - i := ⟨_, rfl⟩
            obtain ⟨y, hy⟩ : ∃ y, y = ln - 1 - i := ⟨_, rfl⟩
            have hxL : x < L.length := by rw [hn'.out]; omega
            have hyM : y < M.length := by rw [hm'.out]; omega
            have x0 : (0 : Int) ≤ (x : Int) := Int.natCast_nonneg _
            have x1 : (x : Int) < (kn : Int) := by omega
            have y0 : (0 : Int) ≤ (y : Int) := Int.natCast_nonneg _
            have y1 : (y : Int) < (ln : Int) := by omega
            have a1 : wrap64 ((kn : Int) - 1) = ((kn - 1 : Nat) : Int) := by rw [IntWalk.wrap64_in] <;> omega
            have a2 : wrap64 (((kn - 1 : Nat) : Int) - (i : Int)) = (x : Int) := by rw [IntWalk.wrap64_in] <;> omega
            have b1 : wrap64 ((ln : Int) - 1) = ((ln - 1 : Nat) : Int) := by rw [IntWalk.wrap64_in] <;> omega
            have b2 : wrap64 (((ln - 1 : Nat) : Int) - (i : Int)) = (y : Int) := by rw [IntWalk.wrap64_in] <;> omega
            have a3 : IntKind.i64.wrap ((kn : Int) - 1) = ((kn - 1 : Nat) : Int) := by rw [IntKind.wrap_i64]; omega
            have a4 : IntKind.i64.wrap (((kn - 1 : Nat) : Int) - (i : Int)) = (x : Int) := by rw [IntKind.wrap_i64]; omega
            have b3 : IntKind.i64.wrap ((ln : Int) - 1) = ((ln - 1 : Nat) : Int) := by rw [IntKind.wrap_i64]; omega
            have b4 : IntKind.i64.wrap (((ln - 1 : Nat) : Int) - (i : Int)) = (y : Int) := by rw [IntKind.wrap_i64]; omega
            have hdw : Below wr.heap.size wr wr.drew := below_drew _ _
            have hRL := (hr'.out.below hBw.out).below hdw
            have hRM := (hs'.out.below hBw.out).below hdw
            obtain ⟨b, off, rfl, c1⟩ := drow_at hRL x hxL
            obtain ⟨d, dof, rfl, c2⟩ := drow_at hRM y hyM
            have hS : Hid (Calls Tryd.prog 8 #[.slice L[x].1 L[x].2.2.length L[x].2.1, .slice M[y].1 M[y].2.2.length M[y].2.1] wr.drew fun e w' => SdQ wr.drew (Alike L[x].2.2 M[y].2.2) e w') :=
              same_any _ _ _ _ _ _ _ _ wr.drew rfl rfl (hRL.2 _ (List.getElem_mem hxL)).1 (hRM.2 _ (List.getElem_mem hyM)).1 (hz'.out.1 _ (List.getElem_mem hxL)) (hy'.out.1 _ (List.getElem_mem hyM)) (hz'.out.2.1 _ (List.getElem_mem hxL)) (hy'.out.2.1 _ (List.getElem_mem hyM))
            have hsame : Hid (keyTx L[x].2.2 = keyTx M[y].2.2 ↔ Alike L[x].2.2 M[y].2.2) := key_same (hrK.out.2.2 _ (by rw [← sd_at L x hxL]; exact List.getElem_mem _)) (hrL.out.2.2 _ (by rw [← sd_at M y hyM]; exact List.getElem_mem _))
            have hkc : Hid (∀ W, Below W6.heap.size W6 W → ∃ gk ok, ka = some ⟨gk, ok, none⟩ ∧ W.cell? ⟨gk, ok + i, none⟩ = some (.string (S (keyTx L[x].2.2)))) := fun W hW => by
              obtain ⟨gk, ok, e, h⟩ := (hrK.out.1.below hW) i (by rw [keys_len, sd_len, hn'.out]; exact hk)
              refine ⟨gk, ok, e, ?_⟩
              rw [h, keys_at (sd L) i (by rw [sd_len, hn'.out]; exact hk)]
              have e2 : (sd L).length - 1 - i = x := by rw [sd_len, hn'.out, hx]
              simp only [e2, sd_at L x hxL]
            have hlc : Hid (∀ W, Below W6.heap.size W6 W → ∃ gl ol, la = some ⟨gl, ol, none⟩ ∧ W.cell? ⟨gl, ol + i, none⟩ = some (.string (S (keyTx M[y].2.2)))) := fun W hW => by
              obtain ⟨gk, ok, e, h⟩ := (hrL.out.1.below hW) i (by rw [keys_len, sd_len, hm'.out]; exact hl)
              refine ⟨gk, ok, e, ?_⟩
              rw [h, keys_at (sd M) i (by rw [sd_len, hm'.out]; exact hl)]
              have e2 : (sd M).length - 1 - i = y := by rw [sd_len, hm'.out, hy]
              simp only [e2, sd_at M y hyM]
            have hlt' : Hid (i < kn ∧ i < ln) := ⟨hk, hl⟩
            generalize L[x] = r at *
            generalize M[y] = q at *
            obtain ⟨pa, pc, ps⟩ := r
            obtain ⟨qa, qc, qs⟩ := q
            dsimp only at c1 c2 hS hsame hkc hlc
            have hsd := str_dec (keyTx ps) (keyTx qs)
            have cd : wr.drew.cell? ⟨b, off + x, none⟩ = some (.slice pa ps.length pc) ∧ wr.drew.cell? ⟨d, dof + y, none⟩ = some (.slice qa qs.length qc) := ⟨c1, c2⟩
            generalize ps.length = pl at *
            generalize qs.length = ql at *
            clear hRL hRM hdw hk hl hx hy hxL hyM hi1 hi2 c1 c2 hBw
            go_upto_region 14 with fail
            go_region_held3 (fun w' => w'.cell? ⟨b, off + x, none⟩ = some (.slice pa pl pc) ∧ w'.cell? ⟨d, dof + y, none⟩ = some (.slice qa ql qc))
              (first | exact cd8 | exact cd)
              (first | (go_at_call 8; refine hS.out.mono ?_; rintro e w8 ⟨⟨bb, rfl, hbb⟩, hb8⟩; have cd8 := And.intro ((hb8.cell (World.block_lt_of_cell? _ _ cd.1)).trans cd.1) ((hb8.cell (World.block_lt_of_cell? _ _ cd.2)).trans cd.2); have hB8 : Hid (Below W6.heap.size W6 w8) := (hR.out.trans (below_drew _ _)).trans (hb8.mono (hR.out.trans (below_drew _ _)).size); have hbb' : Hid (bb = true ↔ Alike ps qs) := hbb; clear hb8 hbb))
            clear cd cd8 hS hR
            obtain ⟨gk, ok, rfl, ck⟩ := hkc.out w8 hB8.out
            obtain ⟨gl, ol, rfl, cl⟩ := hlc.out w8 hB8.out
            have hfin : Hid (Below W6.heap.size W6 w8.drew) := hB8.out.trans (below_drew _ _)
            have hrel : Hid (decide (keyTx ps = keyTx qs) = bb) := by
              unfold Hid
              rw [Bool.eq_iff_iff, decide_eq_true_iff, hsame.out, hbb'.out]
            rw [hrel.out] at hsd
            clear hkc hlc hsame hbb' hrel a1 a2 a3 a4 b1 b2 b3 b4
            generalize S (keyTx ps) = s1 at *
            generalize S (keyTx qs) = s2 at *
            cases bb with
            | true =>
              go_wp2_with fail
              go_region
              go_wp2_with fail
              go_roundw
              case rel => exact ⟨i + 1, hlt'.out.1, hlt'.out.2, by go_num, hfin⟩
              case measure => have := hlt'.out.1; simp [intOf]; omega
            | false =>
              go_wp2_with fail
              go_region
              go_wp2_with fail
              go_roundw
              case rel => exact ⟨i + 1, hlt'.out.1, hlt'.out.2, by go_num, hfin⟩
              case measure => have := hlt'.out.1; simp [intOf]; omega
          · have l1 : ¬ (i : Int) < (ln : Int) := by omega
            clear hk hl hi1 hi2 hR
            go_wp2_with fail
            go_ret
            exact ⟨rfl, hBw.out⟩
        · have k1 : ¬ (i : Int) < (kn : Int) := by omega
          clear hk hi1 hi2 hR
          go_wp2_with fail
          go_ret
          exact ⟨rfl, hBw.out⟩
    · clear hrowK hokL hk4'
      go_wp2_with fail
      go_ret
      exact ⟨rfl, hB6.out.1⟩
  · rcases hk6 with ⟨rfl, rfl, rfl, hokM, hrowL⟩ | ⟨rfl, t2, u2, rfl⟩
    · clear hrowL hokM hk4'
      go_wp2_with fail
      go_ret
      exact ⟨rfl, hB6.out.1⟩
    · clear hk4'
      go_wp2_with fail
      go_ret
      exact ⟨rfl, hB6.out.1⟩
end Ke
end Go.Proofs.YtkanoloddpigdaaDoor
