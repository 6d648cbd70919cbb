import Derived.Test.YtofghgggllfafaaDoorFgRg
import Derived.Test.YtofghgggllfafaaDoorFlChk
namespace Go.Proofs.YtofghgggllfafaaDoor
open Go.RowKit
set_option linter.unusedVariables false

theorem ownP_app {w1 w2 : World} {B : Nat} {v v' : Value} {L zs : List Nod} (h : OwnP w1 B v L) (hz : ∀ y ∈ zs, OwnS w1 B (.slice y.a y.l.length y.n) y.l) (h1 : GOwn 38 9 nV w2 B v' (L ++ zs)) (h2 : ∀ b, b < w1.heap.size → v.ownBlock ≠ some b → w2.heap[b]? = w1.heap[b]?) : OwnP w2 B v' (L ++ zs) := by
  have key : ∀ z : Nod, OwnS w1 B (.slice z.a z.l.length z.n) z.l → OwnS w2 B (.slice z.a z.l.length z.n) z.l := fun z hz =>
    owns_same (show w1.ownsRow B 9 1 _ _ _ from hz) (fun k hk => h2 k (World.ownsRow.lt (show w1.ownsRow B 9 1 _ _ _ from hz) k hk).2 (fun hh => owns_apart (show w1.ownsRow B 38 9 _ _ _ from h.1) (show w1.ownsRow B 9 1 _ _ _ from hz) (by decide) hh hk))
  refine ⟨h1, fun z hzm => ?_⟩
  rcases List.mem_append.1 hzm with hzm | hzm
  · exact key z (h.2 z hzm)
  · exact key z (hz z hzm)

set_option maxRecDepth 100000 in
set_option maxHeartbeats 1000000 in
theorem gGroup_any (op : Int) (fs : List Fl) (a : Option Addr) (c : Nat) (w : World) (hn : fs.length ≤ 3) (hs : Sml fs) (h : RdF w a fs) :
    Calls Tryd.prog 8 #[.int .i64 op, .slice a fs.length c] w fun e w' => GrpIs op fs e w' ∧ Below w.heap.size w w' := by
  have H : Hid (Sml fs ∧ RdF w a fs) := ⟨hs, h⟩
  clear hs h
  have hh : Calls Tryd.prog 15 #[.int .i64 op] w fun e w' => e = .returned (.bool (hol op)) ∧ w = w' := (holds_any op w).mono (fun e w' h => ⟨h.1, h.2.symm⟩)
  by_cases hbad : hol op = false ∨ (op = 2 ∧ (ls fs).length ≠ 1)
  · have hg : Hid (gR op (ls fs) = 1) := gR_arg hbad
    cases ho : hol op with
    | false =>
      rw [ho] at hh
      have hh' : Hid (Calls Tryd.prog 15 #[.int .i64 op] w fun e w' => e = .returned (.bool false) ∧ w = w') := hh
      clear hh hbad
      go_enter Tryd.func8, Tryd.ntmps8
      go_wp2_with (go_at_call 15; refine hh'.out.mono ?_; rintro e w1 ⟨rfl, rfl⟩)
      go_ret2
      exact ⟨grp_none hg.out (by decide), Below.refl _ _⟩
    | true =>
      rw [ho] at hh
      have hh' : Hid (Calls Tryd.prog 15 #[.int .i64 op] w fun e w' => e = .returned (.bool true) ∧ w = w') := hh
      have h2 : op = 2 ∧ ¬ fs.length = 1 := by
        rcases hbad with hb | hb
        · rw [ho] at hb; cases hb
        · exact ⟨hb.1, by simpa [ls] using hb.2⟩
      obtain ⟨rfl, h3⟩ := h2
      have h4 : ((fs.length : Int) != 1) = true := by simp; omega
      clear hh hbad h3 ho
      go_enter Tryd.func8, Tryd.ntmps8
      go_wp2_with (go_at_call 15; refine hh'.out.mono ?_; rintro e w1 ⟨rfl, rfl⟩)
      go_ret2
      exact ⟨grp_none hg.out (by decide), Below.refl _ _⟩
  · have ho : hol op = true := by
      cases e : hol op with
      | true => rfl
      | false => exact absurd (Or.inl e) hbad
    rw [ho] at hh
    have hh' : Hid (Calls Tryd.prog 15 #[.int .i64 op] w fun e w' => e = .returned (.bool true) ∧ w = w') := hh
    have h6 : (op == 2) = false ∨ ((op == 2) = true ∧ ((fs.length : Int) != 1) = false) := by
      cases e1 : (op == 2) with
      | false => exact Or.inl rfl
      | true =>
        have e2 : op = 2 := by simpa using e1
        have : fs.length = 1 := by
          rcases Nat.decEq fs.length 1 with h | h
          · exact absurd (Or.inr ⟨e2, by simpa [ls] using h⟩) hbad
          · exact h
        exact Or.inr ⟨rfl, by rw [this]; rfl⟩
    have hbad' : Hid (¬ (hol op = false ∨ (op = 2 ∧ (ls fs).length ≠ 1))) := hbad
    clear hh hbad ho
    rcases h6 with h6 | ⟨h6, h7⟩
    all_goals
      go_enter Tryd.func8, Tryd.ntmps8
      go_upto_region 4 with (go_at_call 15; refine hh'.out.mono ?_; rintro e w1 ⟨rfl, rfl⟩)
      clear hh'
      go_wp2_with fail
      go_loopw [6, 28] (fun dv iv wr => ∃ (i : Nat) (D : Int), i ≤ fs.length ∧ iv = .int .i64 (i : Int) ∧ dv = .int .i64 D ∧ Hid (D = md (ls (fs.take i)) ∧ fe (ls (fs.take i)) = 0 ∧ Below w.heap.size w wr)) (fun _ iv _ => fs.length - (intOf iv).toNat)
      case atStart => exact ⟨0, 0, Nat.zero_le _, rfl, rfl, rfl, rfl, Below.refl _ _⟩
      case round =>
        obtain ⟨i, D, hi, rfl, rfl, hI⟩ := hrel
        by_cases hlt : i < fs.length
        · have hF := H.out.2.below hI.out.2.2
          obtain ⟨b, off, rfl, h0⟩ := hF.1 i hlt
          have hfr := hF.2 _ (List.getElem_mem hlt)
          have htk : Hid (fs.take (i + 1) = fs.take i ++ [fs[i]]) := List.take_succ_eq_append_getElem hlt
          have hsp : Hid (fs = fs.take i ++ fs[i] :: fs.drop (i + 1)) := by unfold Hid; conv => lhs; rw [← List.take_append_drop i fs, List.drop_eq_getElem_cons hlt]
          have hsm := Nat.le_trans (sm_mem (List.getElem_mem hlt)) H.out.1.1
          have hxl := H.out.1.2 _ (List.getElem_mem hlt)
          obtain ⟨⟨fa, fc, fl⟩, hx⟩ : ∃ x, fs[i] = x := ⟨_, rfl⟩
          rw [hx] at h0 hfr htk hsp hsm hxl
          dsimp only at hfr hsm hxl
          have c0 : wr.cell? ⟨b, off + i, none⟩ = some (.slice fa fl.length fc) := by simpa [gV] using h0 0 (by decide)
          have hC : Hid (Calls Tryd.prog 16 #[.slice fa fl.length fc] wr fun e w' => e = .returned (.tuple #[.int .i64 (chkF fl).1, .int .i64 ((chkF fl).2 : Nat)]) ∧ Below wr.heap.size wr w') := fCheck_any fl fa fc wr hfr (by omega) hxl
          have hDp : Hid (∀ W, Below wr.heap.size wr W → Calls Tryd.prog 17 #[.slice fa fl.length fc] W fun e w' => e = .returned (.int .i64 (dpt fl)) ∧ Below W.heap.size W w') := fun W hW => (depth_any fl fa fc W (by omega) (hfr.below hW)).mono (fun e w' h => ⟨h.1, h.2⟩)
          obtain ⟨E, hE⟩ : ∃ E, (chkF fl).1 = E := ⟨_, rfl⟩
          obtain ⟨kk, hkk⟩ : ∃ kk : Nat, (chkF fl).2 = kk := ⟨_, rfl⟩
          obtain ⟨d2, hd2⟩ : ∃ d2, dpt fl = d2 := ⟨_, rfl⟩
          rw [hE, hkk] at hC
          rw [hd2] at hDp
          have i0 : (0 : Int) ≤ (i : Int) := Int.natCast_nonneg _
          have i1 : (i : Int) < (fs.length : Int) := Int.ofNat_lt.2 hlt
          have hlt' : Hid (i < fs.length) := hlt
          have hd2' : Hid (dpt fl = d2) := hd2
          clear hF h0 hfr hx hkk hlt hxl hd2
          by_cases h0 : E = 0
          · have hE0 : Hid ((chkF fl).1 = 0) := by rw [hE]; exact h0
            subst h0
            clear hE
            go_wp2_with (first | (go_at_call 16; refine hC.out.mono ?_; rintro e w1 ⟨rfl, hb1⟩) | (go_at_call 17; refine (hDp.out w1 hb1).mono ?_; rintro e w2 ⟨rfl, hb2⟩))
            have hfin : Hid (max D d2 = md (ls (fs.take (i + 1))) ∧ fe (ls (fs.take (i + 1))) = 0 ∧ Below w.heap.size w w2) := by
              have hb := hI.out.2.2.trans (hb1.mono hI.out.2.2.size)
              refine ⟨?_, ?_, hb.trans (hb2.mono hb.size)⟩
              · rw [htk.out, ls_snoc, md_snoc, hI.out.1, hd2'.out]
              · rw [htk.out, ls_snoc, fe_app _ _ hI.out.2.1]
                show (if (chkF fl).1 = 0 then (0 : Int) else (chkF fl).1) = 0
                rw [if_pos hE0.out]
            go_roundw
            case rel => exact ⟨i + 1, max D d2, hlt'.out, by simp, by rw [show max D d2 = if D < d2 then d2 else D from by split <;> omega], hfin⟩
            case measure => have := hlt'.out; simp [intOf]; omega
          · have hfe : Hid (gR op (ls fs) = E) := by
              have h1 : fe (ls fs) = E := by
                rw [hsp.out, ls, List.map_append, fe_app _ _ hI.out.2.1]
                show (if (chkF fl).1 = 0 then fe _ else (chkF fl).1) = E
                rw [if_neg (by rw [hE]; exact h0), hE]
              unfold Hid
              rw [gR_chk hbad'.out (by rw [h1]; exact h0), h1]
            have h0' : Hid (E ≠ 0) := h0
            have hne : (E != 0) = true := by simp [h0]
            clear hE h0
            go_wp2_with (go_at_call 16; refine hC.out.mono ?_; rintro e w1 ⟨rfl, hb1⟩)
            go_ret2
            exact ⟨grp_none hfe.out h0'.out, hI.out.2.2.trans (hb1.mono hI.out.2.2.size)⟩
        · have hie : i = fs.length := by omega
          subst hie
          rw [List.take_length] at hI
          have k1 : ¬ (fs.length : Int) < (fs.length : Int) := by omega
          obtain ⟨wo, hwo⟩ : ∃ wo, wo = wr := ⟨_, rfl⟩
          subst hwo
          by_cases hd : 64 ≤ D
          · have hg : Hid (gR op (ls fs) = 121) := gR_deep hbad'.out hI.out.2.1 (by rw [← hI.out.1]; exact hd)
            have hd1 : decide (D ≥ 64) = true := decide_eq_true hd
            have hd2 : decide (64 ≤ D) = true := decide_eq_true hd
            go_wp2_with fail
            go_ret2
            exact ⟨grp_none hg.out (by decide), hI.out.2.2⟩
          · have hg : Hid (gR op (ls fs) = 0 ∧ gL op (ls fs) = outN op (ls fs)) := gR_ok hbad'.out hI.out.2.1 (by rw [← hI.out.1]; exact hd)
            have hd1 : decide (D ≥ 64) = false := decide_eq_false hd
            have hd2 : decide (64 ≤ D) = false := decide_eq_false hd
            obtain ⟨w0, hw0⟩ : ∃ W, wo.alloc (.cells #[.int .i64 1, .int .i64 op, .string ⟨#[]⟩, .string ⟨#[]⟩, .string ⟨#[]⟩, .slice none 0 0, .string ⟨#[]⟩, .string ⟨#[]⟩, .bool false] 38) = W := ⟨_, rfl⟩
            have hB0 : Below wo.heap.size wo w0 := by rw [← hw0]; exact (Below.refl _ _).alloc (Nat.le_refl _) _
            have hO0 : GOwn 38 9 nV w0 wo.heap.size (.slice (some ⟨wo.heap.size, 0, none⟩) 1 1) [hdN op] := by
              rw [← hw0]
              exact ⟨rfl, Or.inr ⟨wo.heap.size, 1, _, rfl, Nat.le_refl _, heap_alloc_new wo _, Nat.le_refl _, by unfold maxLen; omega, rfl, rfl⟩⟩
            have hI0 : Hid (OwnP w0 w.heap.size (.slice (some ⟨wo.heap.size, 0, none⟩) 1 1) [hdN op] ∧ ([hdN op] : List Nod).map np = outN op (ls (fs.take 0)) ∧ Below w.heap.size w w0) := ⟨⟨owns_base (show World.ownsRow _ _ 38 9 _ _ _ from hO0) hI.out.2.2.size, (fun y hy => by have e : y = hdN op := List.mem_singleton.1 hy; rw [e]; exact ownS_nil _ _)⟩, rfl, hI.out.2.2.trans (hB0.mono hI.out.2.2.size)⟩
            clear hO0 hB0 hI hd
            go_upto_region 15 with fail
            clear hw0
            go_wp2_with fail
            go_loopw [11, 52] (fun mv iv wr => ∃ (i : Nat) (ys : List Nod), i ≤ fs.length ∧ iv = .int .i64 (i : Int) ∧ Hid (OwnP wr w.heap.size mv ys ∧ ys.map np = outN op (ls (fs.take i)) ∧ Below w.heap.size w wr)) (fun _ iv _ => fs.length - (intOf iv).toNat)
            case atStart => exact ⟨0, [hdN op], Nat.zero_le _, rfl, hI0⟩
            case round =>
              obtain ⟨i, ys, hi, rfl, hI⟩ := hrel
              clear hI0
              obtain ⟨ma, mc, hmv, _⟩ := hI.out.1.fr
              subst hmv
              have hyl : Hid (ys.length = 1 + sm (fs.take i)) := by
                have e := congrArg List.length hI.out.2.1
                rw [List.length_map, outN_len] at e
                exact e
              by_cases hlt : i < fs.length
              · have hF := H.out.2.below hI.out.2.2
                obtain ⟨b, off, rfl, h0⟩ := hF.1 i hlt
                have hfr := hF.2 _ (List.getElem_mem hlt)
                have htk : Hid (fs.take (i + 1) = fs.take i ++ [fs[i]]) := List.take_succ_eq_append_getElem hlt
                have hsm := Nat.le_trans (sm_mem (List.getElem_mem hlt)) H.out.1.1
                have hst : sm (fs.take i) ≤ 1048576 := Nat.le_trans (sm_take fs i) H.out.1.1
                have hxl := H.out.1.2 _ (List.getElem_mem hlt)
                obtain ⟨⟨fa, fc, fl⟩, hx⟩ : ∃ x, fs[i] = x := ⟨_, rfl⟩
                rw [hx] at h0 hfr htk hsm hxl
                dsimp only at hfr hsm hxl
                have c0 : wr.cell? ⟨b, off + i, none⟩ = some (.slice fa fl.length fc) := by simpa [gV] using h0 0 (by decide)
                have hM : Hid (Calls Tryd.prog 18 #[.slice fa fl.length fc, .int .i64 1] wr fun e w' => (∃ v zs, e = .returned v ∧ OwnP w' wr.heap.size v zs ∧ zs.map np = fl.map (fun x => np (dp 1 x))) ∧ Below wr.heap.size wr w') := moved_any 1 fl fa fc wr hsm (fun x hx => (hxl x hx).1) hfr
                have i0 : (0 : Int) ≤ (i : Int) := Int.natCast_nonneg _
                have i1 : (i : Int) < (fs.length : Int) := Int.ofNat_lt.2 hlt
                have hlt' : Hid (i < fs.length) := hlt
                clear hF h0 hfr hx hlt hxl
                go_upto_region 19 with (first
                  | (go_at_call 18; refine hM.out.mono ?_; rintro e w2 ⟨⟨v1, zs, rfl, hG1, hz⟩, hb2⟩; obtain ⟨a1, c1', e1, _, hR1⟩ := hG1.fr; subst e1; have hzl : Hid (zs.length = fl.length) := (by unfold Hid; simpa using congrArg List.length hz); have hz' : Hid (zs.map np = fl.map (fun x => np (dp 1 x))) := hz; clear hz; have hOw : OwnP w2 w.heap.size (.slice ma ys.length mc) ys := hI.out.1.keep (fun b hb => hb2.block b hb); have hBB : Below w.heap.size w w2 := hI.out.2.2.trans (hb2.mono hI.out.2.2.size); obtain ⟨v3, w3, hr3, hO3, hb3, hk3⟩ := append_gen kd_nod w2 w.heap.size _ ys zs a1 zs.length c1' hOw.1 hR1.rd.1 rfl hBB.size (by have := hyl.out; have := hzl.out; omega) (by decide))
                  | (at_builtin; refine Lib.wpList_append_run _ rfl _ _ _ _ rfl _ _ rfl rfl _ _ hr3 ?_))
                have hfin : Hid (OwnP w3 w.heap.size v3 (ys ++ zs) ∧ (ys ++ zs).map np = outN op (ls (fs.take (i + 1))) ∧ Below w.heap.size w w3) := by
                  refine ⟨ownP_app hOw (fun y hy => owns_base (show World.ownsRow _ _ 9 1 _ _ _ from hG1.2 y hy) hI.out.2.2.size) hO3 hk3, ?_, hBB.trans hb3⟩
                  rw [List.map_append, hI.out.2.1, htk.out, ls_snoc, outN_snoc, hz'.out]
                clear hO3 hb3 hk3 hBB hOw hzl hR1 hz' hG1 hb2 hr3 hI hM c0
                go_wp2_with fail
                go_roundw
                case rel => exact ⟨i + 1, ys ++ zs, hlt'.out, by simp, hfin⟩
                case measure => have := hlt'.out; simp [intOf]; omega
              · have hie : i = fs.length := by omega
                subst hie
                rw [List.take_length] at hI
                have k2 : ¬ (fs.length : Int) < (fs.length : Int) := by omega
                have hfr : FRow wr ma ys := by
                  obtain ⟨a', c', e, _, hr⟩ := hI.out.1.fr
                  injection e with e
                  subst e
                  exact hr
                have hfr' : Hid (FRow wr ma ys) := hfr
                clear hfr
                go_wp2_with fail
                go_ret2
                exact ⟨⟨ma, mc, ys, by rw [hg.out.1]; rfl, hfr'.out, by rw [hg.out.2]; exact hI.out.2.1⟩, hI.out.2.2⟩
end Go.Proofs.YtofghgggllfafaaDoor
