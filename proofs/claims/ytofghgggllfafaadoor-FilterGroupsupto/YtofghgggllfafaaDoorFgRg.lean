import Derived.Test.YtofghgggllfafaaDoorFgG
import Derived.Test.YtofghgggllfafaaDoorFlRC2
namespace Go.Proofs.YtofghgggllfafaaDoor
open Go.RowKit
set_option linter.unusedVariables false

/-- What Group answers. -/
def GrpIs (op : Int) (fs : List Fl) (e : Ending) (w' : World) : Prop := ∃ a c ys, e = .returned (.tuple #[.slice a ys.length c, .int .i64 (gR op (ls fs))]) ∧ FRow w' a ys ∧ ys.map np = gL op (ls fs)
theorem grp_none {op : Int} {fs : List Fl} {E : Int} {w' : World} (h : gR op (ls fs) = E) (hE : E ≠ 0) : GrpIs op fs (.returned (.tuple #[.slice none 0 0, .int .i64 E])) w' :=
  ⟨none, 0, [], by rw [h]; rfl, FRow.nil _ _, by rw [gL_no (by rw [h]; exact hE)]; rfl⟩
theorem ls_snoc (a : List Fl) (f : Fl) : ls (a ++ [f]) = ls a ++ [f.l] := by simp [ls]
theorem dp_rd {w : World} {xs : List Nod} {b : Int} {a : Option Addr} (h : FRow w a xs) : ∀ y ∈ xs.map (dp b), Row w y.a y.l := fun y hy => by
  obtain ⟨x, hx, rfl⟩ := List.mem_map.1 hy
  exact h.rd.2 x hx

set_option maxRecDepth 100000 in
set_option maxHeartbeats 4000000 in
theorem rGroup_any (op : Int) (fs : List Fl) (a : Option Addr) (c : Nat) (w : World) (hn : fs.length ≤ 3) (hs : Sml fs) (h : RdF w a fs) (hT : RowTab w) :
    Calls Tryd.prog 7 #[.int .i64 op, .slice a fs.length c] w fun e w' => GrpIs op fs e w' ∧ Below w.heap.size w w' := by
  have H : Hid (Sml fs ∧ RdF w a fs ∧ RowTab w) := ⟨hs, h, hT⟩
  clear hs h hT
  have hh : Calls Tryd.prog 11 #[.int .i64 op] w fun e w' => e = .returned (.bool (hol op)) ∧ w = w' := (rHolds_any op w).mono (fun e w' h => ⟨h.1, h.2.symm⟩)
  by_cases hbad : hol op = false ∨ (op = 2 ∧ (ls fs).length ≠ 1)
  · have hg : Hid (gR op (ls fs) = 1) := gR_arg hbad
    cases ho : hol op with
    | false =>
      rw [ho] at hh
      have hh' : Hid (Calls Tryd.prog 11 #[.int .i64 op] w fun e w' => e = .returned (.bool false) ∧ w = w') := hh
      clear hh hbad
      go_enter Tryd.func7, Tryd.ntmps7
      go_wp2_with (go_at_call 11; refine hh'.out.mono ?_; rintro e w1 ⟨rfl, rfl⟩)
      go_ret2
      exact ⟨grp_none hg.out (by decide), Below.refl _ _⟩
    | true =>
      rw [ho] at hh
      have hh' : Hid (Calls Tryd.prog 11 #[.int .i64 op] w fun e w' => e = .returned (.bool true) ∧ w = w') := hh
      have h2 : op = 2 ∧ ¬ fs.length = 1 := by
        rcases hbad with hb | hb
        · rw [ho] at hb; cases hb
        · exact ⟨hb.1, by simpa [ls] using hb.2⟩
      obtain ⟨rfl, h3⟩ := h2
      have h4 : ((fs.length : Int) != 1) = true := by simp; omega
      clear hh hbad h3 ho
      go_enter Tryd.func7, Tryd.ntmps7
      go_wp2_with (go_at_call 11; refine hh'.out.mono ?_; rintro e w1 ⟨rfl, rfl⟩)
      go_ret2
      exact ⟨grp_none hg.out (by decide), Below.refl _ _⟩
  · have ho : hol op = true := by
      cases e : hol op with
      | true => rfl
      | false => exact absurd (Or.inl e) hbad
    rw [ho] at hh
    have hh' : Hid (Calls Tryd.prog 11 #[.int .i64 op] w fun e w' => e = .returned (.bool true) ∧ w = w') := hh
    have h6 : (op == 2) = false ∨ ((op == 2) = true ∧ ((fs.length : Int) != 1) = false) := by
      cases e1 : (op == 2) with
      | false => exact Or.inl rfl
      | true =>
        have e2 : op = 2 := by simpa using e1
        have : fs.length = 1 := by
          rcases Nat.decEq fs.length 1 with h | h
          · exact absurd (Or.inr ⟨e2, by simpa [ls] using h⟩) hbad
          · exact h
        exact Or.inr ⟨rfl, by rw [this]; rfl⟩
    have hbad' : Hid (¬ (hol op = false ∨ (op = 2 ∧ (ls fs).length ≠ 1))) := hbad
    clear hh hbad ho
    obtain ⟨w0, hw0⟩ : ∃ W, w.alloc (.cells #[.int .i64 1, .int .i64 op, .string ⟨#[]⟩, .string ⟨#[]⟩, .string ⟨#[]⟩, .slice none 0 0, .string ⟨#[]⟩, .string ⟨#[]⟩, .bool false] 38) = W := ⟨_, rfl⟩
    have hB0 : Below w.heap.size w w0 := by rw [← hw0]; exact (Below.refl _ _).alloc (Nat.le_refl _) _
    have hO0 : GOwn 38 9 nV w0 w.heap.size (.slice (some ⟨w.heap.size, 0, none⟩) 1 1) [hdN op] := by
      rw [← hw0]
      exact ⟨rfl, Or.inr ⟨w.heap.size, 1, _, rfl, Nat.le_refl _, heap_alloc_new w _, Nat.le_refl _, by unfold maxLen; omega, rfl, rfl⟩⟩
    have hI0 : Hid (GOwn 38 9 nV w0 w.heap.size (.slice (some ⟨w.heap.size, 0, none⟩) 1 1) [hdN op] ∧ ([hdN op] : List Nod).map np = outN op (ls (fs.take 0)) ∧ (∀ y ∈ [hdN op], Row w y.a y.l) ∧ fe (ls (fs.take 0)) = 0 ∧ Below w.heap.size w w0) := ⟨hO0, rfl, (fun y hy => by have e : y = hdN op := List.mem_singleton.1 hy; rw [e]; exact Row.nil _ _), rfl, hB0⟩
    clear hO0 hB0
    rcases h6 with h6 | ⟨h6, h7⟩
    all_goals
      go_enter Tryd.func7, Tryd.ntmps7
      go_upto_region 4 with (go_at_call 11; refine hh'.out.mono ?_; rintro e w1 ⟨rfl, rfl⟩)
      clear hw0 hh'
      go_wp2_with fail
      go_loopw [6, 7] (fun mv iv wr => ∃ (i : Nat) (ys : List Nod), i ≤ fs.length ∧ iv = .int .i64 (i : Int) ∧ Hid (GOwn 38 9 nV wr w.heap.size mv ys ∧ ys.map np = outN op (ls (fs.take i)) ∧ (∀ y ∈ ys, Row w y.a y.l) ∧ fe (ls (fs.take i)) = 0 ∧ Below w.heap.size w wr)) (fun _ iv _ => fs.length - (intOf iv).toNat)
      case atStart => exact ⟨0, [hdN op], Nat.zero_le _, rfl, hI0⟩
      case round =>
        obtain ⟨i, ys, hi, rfl, hI⟩ := hrel
        clear hI0
        obtain ⟨ma, mc, hmv, _⟩ := hI.out.1.row nV_len
        subst hmv
        have hyl : Hid (ys.length = 1 + sm (fs.take i)) := by
          have e := congrArg List.length hI.out.2.1
          rw [List.length_map, outN_len] at e
          exact e
        by_cases hlt : i < fs.length
        · have hF := H.out.2.1.below hI.out.2.2.2.2
          obtain ⟨b, off, rfl, h0⟩ := hF.1 i hlt
          have hfr := hF.2 _ (List.getElem_mem hlt)
          have hfw := H.out.2.1.2 _ (List.getElem_mem hlt)
          have htk : Hid (fs.take (i + 1) = fs.take i ++ [fs[i]]) := List.take_succ_eq_append_getElem hlt
          have hsp : Hid (fs = fs.take i ++ fs[i] :: fs.drop (i + 1)) := by unfold Hid; conv => lhs; rw [← List.take_append_drop i fs, List.drop_eq_getElem_cons hlt]
          have hsm := Nat.le_trans (sm_mem (List.getElem_mem hlt)) H.out.1.1
          have hst : sm (fs.take i) ≤ 1048576 := Nat.le_trans (sm_take fs i) H.out.1.1
          have hxl := H.out.1.2 _ (List.getElem_mem hlt)
          obtain ⟨⟨fa, fc, fl⟩, hx⟩ : ∃ x, fs[i] = x := ⟨_, rfl⟩
          rw [hx] at h0 hfr hfw htk hsp hsm hxl
          dsimp only at hfr hfw hsm hxl
          have c0 : wr.cell? ⟨b, off + i, none⟩ = some (.slice fa fl.length fc) := by simpa [gV] using h0 0 (by decide)
          have hC : Hid (Calls Tryd.prog 12 #[.slice fa fl.length fc] wr fun e w' => e = .returned (.tuple #[.int .i64 (chkF fl).1, .int .i64 ((chkF fl).2 : Nat)]) ∧ Below wr.heap.size wr w') := rfCheck_any fl fa fc wr hfr (by omega) hxl (H.out.2.2.below hI.out.2.2.2.2)
          have hM : Hid (∀ W, Below wr.heap.size wr W → Calls Tryd.prog 13 #[.slice fa fl.length fc, .int .i64 1] W fun e w' => (∃ v, e = .returned v ∧ GOwn 38 9 nV w' W.heap.size v (fl.map (dp 1))) ∧ Below W.heap.size W w') := fun W hW => rMoved_any 1 fl fa fc W hsm (hfr.below hW)
          have hrd : Hid (∀ y ∈ fl.map (dp 1), Row w y.a y.l) := dp_rd hfw
          obtain ⟨E, hE⟩ : ∃ E, (chkF fl).1 = E := ⟨_, rfl⟩
          obtain ⟨kk, hkk⟩ : ∃ kk : Nat, (chkF fl).2 = kk := ⟨_, rfl⟩
          rw [hE, hkk] at hC
          have i0 : (0 : Int) ≤ (i : Int) := Int.natCast_nonneg _
          have i1 : (i : Int) < (fs.length : Int) := Int.ofNat_lt.2 hlt
          have hlt' : Hid (i < fs.length) := hlt
          have hK : Hid (∀ W, Below wr.heap.size wr W → W.cell? ⟨b, off + i, none⟩ = some (.slice fa fl.length fc)) := fun W hW => by rw [hW.cell (World.block_lt_of_cell? wr _ c0)]; exact c0
          clear hF h0 hfr hfw hx hkk hlt hxl
          by_cases h0 : E = 0
          · have hE0 : Hid ((chkF fl).1 = 0) := by rw [hE]; exact h0
            subst h0
            clear hE
            go_upto_region 10 with (go_at_call 12; refine hC.out.mono ?_; rintro e w1 ⟨rfl, hb1⟩)
            have c1 := hK.out w1 hb1
            have hM1 := hM.out w1 hb1
            have hM1' : Hid (Calls Tryd.prog 13 #[.slice fa fl.length fc, .int .i64 1] w1 fun e w' => (∃ v, e = .returned v ∧ GOwn 38 9 nV w' w1.heap.size v (fl.map (dp 1))) ∧ Below w1.heap.size w1 w') := hM1
            have K1 : Hid (Below wr.heap.size wr w1) := hb1
            clear hM1 hM hC hK c0 hb1
            go_upto_region 6 with (first
              | (go_at_call 13; refine hM1'.out.mono ?_; rintro e w2 ⟨⟨v1, rfl, hG1⟩, hb2⟩; obtain ⟨a1, c1', e1, _, hR1⟩ := hG1.row nV_len; rw [List.length_map] at e1; subst e1; have hBw : Below wr.heap.size wr w2 := K1.out.trans (hb2.mono K1.out.size); have hOw : GOwn 38 9 nV w2 w.heap.size (.slice ma ys.length mc) ys := owns_same (show wr.ownsRow w.heap.size 38 9 _ _ _ from hI.out.1) (fun b hb => hBw.block b (World.ownsRow.lt (show wr.ownsRow w.heap.size 38 9 _ _ _ from hI.out.1) b hb).2); have hBB : Below w.heap.size w w2 := hI.out.2.2.2.2.trans (hBw.mono hI.out.2.2.2.2.size); obtain ⟨v3, w3, hr3, hO3, hb3, _⟩ := append_gen kd_nod w2 w.heap.size _ ys (fl.map (dp 1)) a1 fl.length c1' hOw hR1 (by rw [List.length_map]) hBB.size (by rw [List.length_map]; have := hyl.out; omega) (by decide))
              | (at_builtin; refine Lib.wpList_append_run _ rfl _ _ _ _ rfl _ _ rfl rfl _ _ hr3 ?_))
            have hfin : Hid (GOwn 38 9 nV w3 w.heap.size v3 (ys ++ fl.map (dp 1)) ∧ (ys ++ fl.map (dp 1)).map np = outN op (ls (fs.take (i + 1))) ∧ (∀ y ∈ ys ++ fl.map (dp 1), Row w y.a y.l) ∧ fe (ls (fs.take (i + 1))) = 0 ∧ Below w.heap.size w w3) := by
              refine ⟨hO3, ?_, fun y hy => ?_, ?_, hBB.trans hb3⟩
              · rw [List.map_append, hI.out.2.1, htk.out, ls_snoc, outN_snoc, List.map_map]
                rfl
              · rcases List.mem_append.1 hy with hy | hy
                · exact hI.out.2.2.1 y hy
                · exact hrd.out y hy
              · rw [htk.out, ls_snoc, fe_app _ _ hI.out.2.2.2.1]
                show (if (chkF fl).1 = 0 then (0 : Int) else (chkF fl).1) = 0
                rw [if_pos hE0.out]
            clear hO3 hb3 hBB hOw hBw hR1 hb2 hG1 hr3 hI hM1' K1 c1
            go_wp2_with fail
            go_roundw
            case rel => exact ⟨i + 1, ys ++ fl.map (dp 1), hlt'.out, by simp, hfin⟩
            case measure => have := hlt'.out; simp [intOf]; omega
          · have hfe : Hid (gR op (ls fs) = E) := by
              have h1 : fe (ls fs) = E := by
                rw [hsp.out, ls, List.map_append, fe_app _ _ hI.out.2.2.2.1]
                show (if (chkF fl).1 = 0 then fe _ else (chkF fl).1) = E
                rw [if_neg (by rw [hE]; exact h0), hE]
              unfold Hid
              rw [gR_chk hbad'.out (by rw [h1]; exact h0), h1]
            have h0' : Hid (E ≠ 0) := h0
            have hne : (E != 0) = true := by simp [h0]
            clear hE h0
            go_wp2_with (go_at_call 12; refine hC.out.mono ?_; rintro e w1 ⟨rfl, hb1⟩)
            go_ret2
            exact ⟨grp_none hfe.out h0'.out, hI.out.2.2.2.2.trans (hb1.mono hI.out.2.2.2.2.size)⟩
        · have hie : i = fs.length := by omega
          subst hie
          rw [List.take_length] at hI hyl
          have k1 : ¬ (fs.length : Int) < (fs.length : Int) := by omega
          have hfr : FRow wr ma ys := by
            obtain ⟨a', c', e, _, hr⟩ := hI.out.1.row nV_len
            injection e with e
            subst e
            exact RdG.fr ⟨hr, fun y hy => (hI.out.2.2.1 y hy).below hI.out.2.2.2.2⟩
          have hD : Hid (Calls Tryd.prog 14 #[.slice ma ys.length mc] wr fun e w' => e = .returned (.int .i64 (dpt ys)) ∧ wr = w') := (rDepth_any ys ma mc wr (by have := hyl.out; have := H.out.1.1; omega) hfr).mono (fun e w' h => ⟨h.1, h.2.symm⟩)
          have hif := deep_iff hI.out.2.2.2.1 hI.out.2.1
          obtain ⟨D, hDe⟩ : ∃ D, dpt ys = D := ⟨_, rfl⟩
          rw [hDe] at hD hif
          by_cases hd : 64 < D
          · have hg : Hid (gR op (ls fs) = 121) := gR_deep hbad'.out hI.out.2.2.2.1 (hif.1 hd)
            have hd1 : decide (D > 64) = true := decide_eq_true hd
            have hd2 : decide (64 < D) = true := decide_eq_true hd
            clear hif hDe
            go_wp2_with (go_at_call 14; refine hD.out.mono ?_; rintro e w1 ⟨rfl, rfl⟩)
            go_ret2
            exact ⟨grp_none hg.out (by decide), hI.out.2.2.2.2⟩
          · have hg : Hid (gR op (ls fs) = 0 ∧ gL op (ls fs) = outN op (ls fs)) := gR_ok hbad'.out hI.out.2.2.2.1 (fun h => hd (hif.2 h))
            have hd1 : decide (D > 64) = false := decide_eq_false hd
            have hd2 : decide (64 < D) = false := decide_eq_false hd
            have hfr' : Hid (FRow wr ma ys) := hfr
            clear hif hDe hfr
            go_wp2_with (go_at_call 14; refine hD.out.mono ?_; rintro e w1 ⟨rfl, rfl⟩)
            go_ret2
            exact ⟨⟨ma, mc, ys, by rw [hg.out.1]; rfl, hfr'.out, by rw [hg.out.2]; exact hI.out.2.1⟩, hI.out.2.2.2.2⟩
end Go.Proofs.YtofghgggllfafaaDoor
