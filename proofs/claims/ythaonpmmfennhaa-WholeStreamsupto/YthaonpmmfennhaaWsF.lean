import Derived.Test.YthaonpmmfennhaaWsE
namespace Go.Proofs.Ythaonpmmfennhaa
open Go.RowKit
open BerMath (lo enc sz be)
open FrMath (Hdr lb bd within Out ends cut Cut)
set_option linter.unusedVariables false

/-- A row of texts, wherever it lies. -/
def WRow (w : World) (a : Option Addr) (l : List (List UInt8)) : Prop := ∀ i (hi : i < l.length), ∃ b off, a = some ⟨b, off, none⟩ ∧ w.cell? ⟨b, off + i, none⟩ = some (.string (S l[i]))
theorem WRow.below {w w' : World} {a : Option Addr} {l : List (List UInt8)} (h : WRow w a l) (hb : Below w.heap.size w w') : WRow w' a l := fun i hi => by
  obtain ⟨b, off, e, h1⟩ := h i hi
  refine ⟨b, off, e, ?_⟩
  have hlt : b < w.heap.size := World.block_lt_of_cell? w _ h1
  rw [hb.cell (by show b < w.heap.size; omega)]
  exact h1
def wsum (l : List (List UInt8)) : Nat := (l.map (fun t => t.length + 1)).sum
theorem wsum_len : ∀ l : List (List UInt8), l.length ≤ wsum l
  | [] => Nat.le_refl _
  | b :: l => by
    have := wsum_len l
    show l.length + 1 ≤ (b.length + 1) + wsum l
    omega
theorem wsum_mem : ∀ (l : List (List UInt8)) (b : List UInt8), b ∈ l → b.length + 1 ≤ wsum l
  | x :: l, b, h => by
    show b.length + 1 ≤ (x.length + 1) + wsum l
    rcases List.mem_cons.1 h with rfl | h
    · omega
    · have := wsum_mem l b h; omega
def okW (b : List UInt8) : Bool := decide (b.length ≤ 1000000)
theorem wsum_filter : ∀ l : List (List UInt8), wsum (l.filter okW) ≤ wsum l
  | [] => Nat.le_refl _
  | b :: l => by
    have := wsum_filter l
    rw [List.filter_cons]
    split
    · show (b.length + 1) + wsum (l.filter okW) ≤ (b.length + 1) + wsum l
      omega
    · show wsum (l.filter okW) ≤ (b.length + 1) + wsum l
      omega
theorem flat_msgs : ∀ l : List (List UInt8), (∀ b ∈ l, b.length ≤ 1000000) → (l.map msgL).flatten.length ≤ 15 * wsum l
  | [], _ => Nat.le_refl _
  | b :: l, h => by
    have h1 := flat_msgs l (fun x hx => h x (List.mem_cons_of_mem _ hx))
    have h2 := msgL_len b (h b List.mem_cons_self)
    rw [List.map_cons, List.flatten_cons, List.length_append]
    show _ ≤ 15 * ((b.length + 1) + wsum l)
    omega
theorem filt_in (l : List (List UInt8)) (i : Nat) (h : i < l.length) : (l.take (i + 1)).filter okW = (l.take i).filter okW ++ (if okW l[i] = true then [l[i]] else []) := by
  rw [List.take_succ_eq_append_getElem h, List.filter_append]
  congr 1
  rw [List.filter_cons]
  rfl
theorem flat_in (l : List (List UInt8)) (i : Nat) (h : i < l.length) : (l.take (i + 1)).flatten = (l.take i).flatten ++ l[i] := by
  rw [List.take_succ_eq_append_getElem h, List.flatten_append]
  simp
theorem ws_next (i : Nat) (h : i ≤ 1048577) : wrap64 ((i : Int) + 1) = ((i + 1 : Nat) : Int) := by unfold wrap64; omega
theorem wflat_len (ps : List (List UInt8)) (i : Nat) : (ps.take i).flatten.length ≤ ps.flatten.length := by
  have : ps.flatten = (ps.take i).flatten ++ (ps.drop i).flatten := by rw [← List.flatten_append, List.take_append_drop]
  rw [this, List.length_append]
  omega

set_option maxRecDepth 100000 in
set_option maxHeartbeats 4000000 in
theorem wholeStreams_walk (ws : List (List UInt8)) (a : Option Addr) (c : Nat) (ca : Option Addr) (cl cc : Nat) (w : World) (hrow : WRow w a ws) (hi : IsInts w ca cl) (hsz : wsum ws + cl ≤ 1048576) :
    Calls Try.prog 3 #[.slice a ws.length c, .slice ca cl cc] w fun e w' => e = .returned (.bool true) ∧ Below w.heap.size w w' := by
  have hlen : ws.length ≤ 1048576 := by have := wsum_len ws; omega
  have hcl : Hid (cl ≤ 1048576) := by unfold Hid; omega
  have hi' : Hid (IsInts w ca cl) := hi
  obtain ⟨fit, hfit⟩ : ∃ fit, ws.filter okW = fit := ⟨_, rfl⟩
  have hfw : Hid (∀ b ∈ fit, b.length ≤ 1000000) := by
    unfold Hid
    intro b hb
    rw [← hfit] at hb
    exact of_decide_eq_true (List.mem_filter.1 hb).2
  have hfs : Hid (wsum fit ≤ 1048576 ∧ fit.length ≤ 1048576) := by
    unfold Hid
    have h1 := wsum_filter ws
    rw [hfit] at h1
    have := wsum_len fit
    omega
  obtain ⟨ms, hms⟩ : ∃ ms, fit.map msgL = ms := ⟨_, rfl⟩
  have hcut : Hid (Cut 1048576 ms.flatten = ⟨ms, ms.flatten.length, 0⟩) := by unfold Hid; rw [← hms]; exact cut_msgs fit hfw.out
  have hmf : Hid (ms.flatten.length ≤ 15728640 ∧ ms.length = fit.length) := by
    unfold Hid
    have h1 := flat_msgs fit hfw.out
    rw [hms] at h1
    have := hfs.out.1
    exact ⟨by omega, by rw [← hms, List.length_map]⟩
  clear hi hsz
  go_enter Try.func3, Try.ntmps3
  go_wp2_with fail
  go_loopw [5, 27] (fun fv iv wr => ∃ (i : Nat), i ≤ ws.length ∧ iv = .int .i64 (i : Int) ∧ Hid (OwnS wr w.heap.size fv ((ws.take i).filter okW)) ∧ Below w.heap.size w wr) (fun _ iv _ => ws.length - (intOf iv).toNat)
  case atStart => exact ⟨0, Nat.zero_le _, rfl, ownS_nil _ _, Below.refl _ _⟩
  case round =>
    obtain ⟨i, hil, rfl, hout, HB⟩ := hrel
    have hBs : w.heap.size ≤ wr.heap.size := HB.size
    by_cases h1 : i < ws.length
    · obtain ⟨oa, oc, rfl⟩ := ownS_len hout.out
      obtain ⟨gb, off, rfl, hcell⟩ := hrow.below HB i h1
      have hstep := filt_in ws i h1
      obtain ⟨b, hb⟩ : ∃ b, ws[i] = b := ⟨_, rfl⟩
      rw [hb] at hcell hstep
      obtain ⟨X, hX⟩ : ∃ X, S b = X := ⟨_, rfl⟩
      rw [hX] at hcell
      have hXs : X.size = b.length := by rw [← hX, S_size]
      have i0 : (0 : Int) ≤ (i : Int) := Int.natCast_nonneg _
      have i1 : (i : Int) < (ws.length : Int) := Int.ofNat_lt.2 h1
      have hmeas : Hid (ws.length - (i + 1) < ws.length - i) := by unfold Hid; omega
      have h1' : Hid (i + 1 ≤ ws.length) := h1
      have hpl : Hid (((ws.take i).filter okW).length ≤ 67108864) := by
        unfold Hid
        have := List.length_filter_le okW (ws.take i)
        rw [List.length_take] at this
        omega
      generalize (ws.take i).filter okW = L at *
      by_cases hok : b.length ≤ 1000000
      · have d1 : decide ((X.size : Int) ≤ 1000000) = true := decide_eq_true (by omega)
        rw [if_pos (show okW b = true from decide_eq_true hok)] at hstep
        have hstep' : Hid ((ws.take (i + 1)).filter okW = L ++ [b]) := hstep
        have hXl : Hid (X = S b) := hX.symm
        clear hstep hb hX hXs hok hrow
        go_wp2_with (at_builtin; refine push_text _ rfl _ _ rfl w.heap.size _ L b _ rfl rfl ?_ ?_ ?_ hpl.out ?_; (exact World.ownsRow.alloc hout.out _); (rw [← hXl.out]; exact heap_alloc_new _ _); (simp; omega); intro g6 cap6 w6 hown6 hgr6 hlie6 hb6)
        refine ⟨⟨i + 1, h1'.out, by simp, ?_, (HB.alloc HB.size _).trans hb6⟩, ?_⟩
        · unfold Hid
          rw [hstep'.out]
          exact hown6
        · have := hmeas.out
          simp [intOf]
          omega
      · have d1 : decide ((X.size : Int) ≤ 1000000) = false := decide_eq_false (by omega)
        rw [if_neg (show ¬ okW b = true from fun h => hok (of_decide_eq_true h)), List.append_nil] at hstep
        have hstep' : Hid ((ws.take (i + 1)).filter okW = L) := hstep
        clear hstep hb hX hXs hok hrow
        go_wp2_with fail
        refine ⟨⟨i + 1, h1'.out, by simp, ?_, HB⟩, ?_⟩
        · unfold Hid
          rw [hstep'.out]
          exact hout.out
        · have := hmeas.out
          simp [intOf]
          omega
    · have hie : i = ws.length := by omega
      subst hie
      rw [List.take_length, hfit] at hout
      obtain ⟨fa, fc, rfl⟩ := ownS_len hout.out
      have HBo : Hid (Calls Try.prog 4 #[.slice fa fit.length fc] wr fun e w' => ∃ v', e = .returned (.tuple #[v', .bool true]) ∧ OwnS w' wr.heap.size v' ms ∧ Below wr.heap.size wr w') := by
        have h := bodies_any fit _ _ wr hout.out hfw.out hfs.out.2
        rw [hms] at h
        exact h
      clear hrow hlen hil h1
      go_wp2_with fail
      refine HBo.out.mono ?_
      rintro e w1 ⟨mv, rfl, hmv, hb1⟩
      have HB1 : Below w.heap.size w w1 := HB.trans (hb1.mono HB.size)
      have hfit1 : Hid (OwnS w1 w.heap.size (.slice fa fit.length fc) fit) := ownS_below hout.out hb1
      obtain ⟨ma, mc, rfl⟩ := ownS_len hmv
      have hms1 : Hid (OwnS w1 w.heap.size (.slice ma ms.length mc) ms) := ownS_base hmv hBs
      clear hmv hb1 HBo hout HB hBs
      go_wp2_with fail
      obtain ⟨wo, hwo⟩ : ∃ wo, wo = w1 := ⟨_, rfl⟩
      go_loopw [10, 48] (fun sv' iv wr => ∃ (i : Nat), i ≤ ms.length ∧ iv = .int .i64 (i : Int) ∧ sv' = .string (S (ms.take i).flatten) ∧ w1 = wr) (fun _ iv _ => ms.length - (intOf iv).toNat)
      case atStart => exact ⟨0, Nat.zero_le _, rfl, rfl, rfl⟩
      case round =>
        obtain ⟨i, hil, rfl, rfl, rfl⟩ := hrel
        by_cases h1 : i < ms.length
        · rcases ownS_form hms1.out with ⟨_, hc⟩ | ⟨gl, lcap, hlve⟩
          · rw [hc] at h1; simp at h1
          injection hlve with hl1 hl2 hl3
          subst hl1 hl3
          have hcell := ownS_cell hms1.out i h1
          have hstep := flat_in ms i h1
          obtain ⟨b, hb⟩ : ∃ b, ms[i] = b := ⟨_, rfl⟩
          rw [hb] at hcell hstep
          have hsum : Hid ((ms.take i).flatten.length + b.length ≤ 15728640) := by
            unfold Hid
            have h2 := wflat_len ms (i + 1)
            rw [hstep, List.length_append] at h2
            have := hmf.out.1
            omega
          have hadd : Hid (¬ (S (ms.take i).flatten).size + (S b).size > 9223372036854775807 ∧ S (ms.take i).flatten ++ S b = S (ms.take (i + 1)).flatten) := by
            unfold Hid
            rw [S_size, S_size, S_app2, ← hstep]
            have := hsum.out
            exact ⟨by omega, rfl⟩
          have ha := hadd.out.1
          have i0 : (0 : Int) ≤ (i : Int) := Int.natCast_nonneg _
          have i1 : (i : Int) < (ms.length : Int) := Int.ofNat_lt.2 h1
          have hmeas : Hid (ms.length - (i + 1) < ms.length - i) := by unfold Hid; omega
          have h1' : Hid (i + 1 ≤ ms.length) := h1
          have hle : ms.length ≤ 1048576 := by have := hmf.out.2; have := hfs.out.2; omega
          generalize hY : S (ms.take (i + 1)).flatten = Y at *
          generalize S (ms.take i).flatten = X1 at *
          generalize S b = X2 at *
          have hXY : Hid (X1 ++ X2 = Y) := hadd.out.2
          clear hsum hstep hb hadd
          go_wp2_with fail
          refine ⟨⟨i + 1, h1'.out, by simp, by rw [hXY.out, hY], trivial⟩, ?_⟩
          have := hmeas.out
          simp [intOf]
          omega
        · have hie : i = ms.length := by omega
          subst hie
          rw [List.take_length]
          have hBs1 : w.heap.size ≤ w1.heap.size := HB1.size
          obtain ⟨T, hT⟩ : ∃ T, S ms.flatten = T := ⟨_, rfl⟩
          rw [hT]
          have hTl : Hid (T.data.toList = ms.flatten ∧ T.size = ms.flatten.length) := by unfold Hid; rw [← hT, S_l, S_size]; exact ⟨rfl, rfl⟩
          have HN : Hid (Calls Try.prog 5 #[.int .i64 1048576] w1 fun e w' => ∃ fb, e = .returned (.pointer (some ⟨fb, 0, none⟩)) ∧ w1.heap.size ≤ fb ∧ w'.heap.size = fb + 1 ∧ FCells w' fb (frL 1048576 0 (.slice none 0 0) ⟨2, 2, 0⟩) ∧ Below w1.heap.size w1 w') := new_any 1048576 w1
          clear hT h1 hil hwo
          go_wp2_with fail
          refine HN.out.mono ?_
          rintro e w2 ⟨fb, rfl, hfb1, hfb2, hCf, hb2⟩
          have HB2 : Below w.heap.size w w2 := HB1.trans (hb2.mono HB1.size)
          have hfit2 : Hid (OwnS w2 w.heap.size (.slice fa fit.length fc) fit) := ownS_below hfit1.out hb2
          have hms2 : Hid (OwnS w2 w.heap.size (.slice ma ms.length mc) ms) := ownS_below hms1.out hb2
          have HP : Hid (Calls Try.prog 6 #[.string T, .slice ca cl cc] w2 fun e w' => ∃ v ps, e = .returned v ∧ OwnS w' w2.heap.size v ps ∧ ps.flatten = T.data.toList ∧ ps.length ≤ cl + 1 ∧ Below w2.heap.size w2 w') := wpieces_any T ca cl cc w2 (hi'.out.below (Nat.le_refl _) HB2) (by have := hTl.out; have := hmf.out; omega) (by have := hcl.out; omega)
          have hfa1 : Hid (∀ x, (Value.slice fa fit.length fc).ownBlock = some x → x < w1.heap.size) := fun x hx => (ownS_lt hfit1.out hx).2
          have hma1 : Hid (∀ x, (Value.slice ma ms.length mc).ownBlock = some x → x < w1.heap.size) := fun x hx => (ownS_lt hms1.out hx).2
          clear hfit1 hms1 HN HB1 hb2
          go_wp2_with fail
          refine HP.out.mono ?_
          rintro e w3 ⟨lv, ps, rfl, hlv, hfl, hpl, hb3⟩
          have HB3 : Below w.heap.size w w3 := HB2.trans (hb3.mono HB2.size)
          have hfit3 : Hid (OwnS w3 w.heap.size (.slice fa fit.length fc) fit) := ownS_below hfit2.out hb3
          have hms3 : Hid (OwnS w3 w.heap.size (.slice ma ms.length mc) ms) := ownS_below hms2.out hb3
          have hn3 : fb + 1 ≤ w3.heap.size := by have := hb3.size; omega
          have hCf3 : FCells w3 fb (frL 1048576 0 (.slice none 0 0) ⟨2, 2, 0⟩) := hCf.of_block (hb3.block _ (by omega))
          have hfst : Hid (FSt fb 1048576 [] (.slice none 0 0) w3 w3.heap.size) := by
            refine ⟨fun _ => ⟨?_, ?_, proper_nil 1048576⟩, fun h => absurd (by rw [Cut_nil]) h, fun x hx => by cases hx⟩
            · rw [Cut_nil]; exact hCf3
            · rw [Cut_nil]; exact ⟨rfl, Or.inl ⟨rfl, rfl⟩⟩
          obtain ⟨la, lc, rfl⟩ := ownS_len hlv
          have hlv' : Hid (OwnS w3 w2.heap.size (.slice la ps.length lc) ps) := hlv
          have hfl' : Hid (ps.flatten = ms.flatten) := by unfold Hid; rw [hfl]; exact hTl.out.1
          have hpl' : Hid (ps.length ≤ cl + 1) := hpl
          have hBw : Hid (w.heap.size ≤ w1.heap.size) := hBs1
          have hord : Hid (w1.heap.size ≤ fb ∧ fb < w2.heap.size ∧ w2.heap.size ≤ w3.heap.size ∧ fb < w3.heap.size) := by unfold Hid; have := hb3.size; omega
          clear hfit2 hms2 HP HB2 hb3 hlv hfl hpl hCf hCf3 hn3 hfb1 hfb2 hBs1
          go_wp2_with fail
          go_loopw [14, 63] (fun gv iv wr => ∃ (i : Nat) (v : Value) (gms : List (List UInt8)), i ≤ ps.length ∧ iv = .int .i64 (i : Int) ∧ Hid (gms = (Cut 1048576 (ps.take i).flatten).ms) ∧ Hid (OwnS wr w3.heap.size gv gms) ∧ Hid (FSt fb 1048576 (ps.take i).flatten v wr w3.heap.size) ∧ Hid (∀ x, v.ownBlock = some x → gv.ownBlock ≠ some x) ∧ Hid (∀ b, b < w3.heap.size → b ≠ fb → wr.heap[b]? = w3.heap[b]?) ∧ Below w.heap.size w wr ∧ w3.heap.size ≤ wr.heap.size) (fun _ iv _ => ps.length - (intOf iv).toNat)
          case atStart =>
            refine ⟨0, .slice none 0 0, [], Nat.zero_le _, rfl, ?_, ownS_nil _ _, ?_, ?_, ?_, HB3, Nat.le_refl _⟩
            · unfold Hid; rw [List.take_zero, List.flatten_nil, Cut_nil]
            · unfold Hid; rw [List.take_zero, List.flatten_nil]; exact hfst.out
            · unfold Hid; intro x hx; cases hx
            · unfold Hid; intro b _ _; rfl
          case round =>
            obtain ⟨i, v, gms, hil, rfl, hgms, hgo, hst, hap, hlow, HB, hnr⟩ := hrel
            clear hfst HB3
            by_cases hlt : i < ps.length
            · have hlvr : OwnS wr w2.heap.size (.slice la ps.length lc) ps := ownS_of hlv'.out (fun x hx => hlow.out x (ownS_lt hlv'.out hx).2 (by have := (ownS_lt hlv'.out hx).1; have := hord.out; omega))
              rcases ownS_form hlvr with ⟨_, hc⟩ | ⟨gl, lcap, hlve⟩
              · rw [hc] at hlt; simp at hlt
              injection hlve with hl1 hl2 hl3
              subst hl1 hl3
              have hcell := ownS_cell hlvr i hlt
              obtain ⟨ci, hci⟩ : ∃ ci, ps[i]'hlt = ci := ⟨_, rfl⟩
              rw [hci] at hcell
              obtain ⟨X, hX⟩ : ∃ X, S ci = X := ⟨_, rfl⟩
              rw [hX] at hcell
              have hXl : Hid (X.data.toList = ci ∧ X.size = ci.length) := by unfold Hid; rw [← hX, S_l, S_size]; exact ⟨rfl, rfl⟩
              have hstep := flat_in ps i hlt
              rw [hci] at hstep
              have hsum : Hid ((ps.take i).flatten.length + ci.length ≤ 15728640 ∧ (ps.take (i + 1)).flatten = (ps.take i).flatten ++ ci) := by
                unfold Hid
                have h1 := wflat_len ps (i + 1)
                rw [hstep, List.length_append, hfl'.out] at h1
                have := hmf.out.1
                exact ⟨by omega, hstep⟩
              have her0 : Hid ((Cut 1048576 ((ps.take i).flatten ++ ci)).er = 0) := by
                unfold Hid
                refine front_ok (c := (ps.drop (i + 1)).flatten) ?_
                rw [← hstep, ← List.flatten_append, List.take_append_drop, hfl'.out, hcut.out]
              obtain ⟨W1, cap, hcv, hbc, hnc, hck, hcc, hcap⟩ := conv_chk wr X (by have := hsum.out; have := hXl.out; omega)
              have hs1 : FSt fb 1048576 (ps.take i).flatten v W1 w3.heap.size := hst.out.of (hbc.block _ hst.out.lt) (fun x hx => hbc.block x (hst.out.high x hx).2) hbc.size
              have hFd : Hid (Calls Try.prog 7 #[.pointer (some ⟨fb, 0, none⟩), .slice (some ⟨wr.heap.size, 0, none⟩) X.size cap] W1 fun e w' => ∃ mv v' k, e = .returned (.tuple #[mv, .int .i64 0]) ∧ OwnS w' W1.heap.size mv k ∧ (Cut 1048576 (ps.take i).flatten).ms ++ k = (Cut 1048576 ((ps.take i).flatten ++ ci)).ms ∧ FSt fb 1048576 ((ps.take i).flatten ++ ci) v' w' w3.heap.size ∧ Fresh v v' W1 ∧ Kept fb v W1 w' ∧ (∀ x, v'.ownBlock = some x → mv.ownBlock ≠ some x)) := by
                have h := feed_fst fb 1048576 (ps.take i).flatten ci v W1 w3.heap.size wr.heap.size cap hs1 (by omega) (by omega) (by have := hord.out; omega) (fun hh => by have := (hst.out.high _ hh).2; omega) (by rw [← hXl.out.1]; exact hck) (by rw [← hXl.out.2]; exact hcc) hcap (by have := hsum.out.1; omega)
                rw [← hXl.out.2, her0.out] at h
                exact h
              have i0 : (0 : Int) ≤ (i : Int) := Int.natCast_nonneg _
              have i1 : (i : Int) < (ps.length : Int) := Int.ofNat_lt.2 hlt
              have hlt' : Hid (i < ps.length) := hlt
              have hbc' : Hid (Below wr.heap.size wr W1) := hbc
              have hnc' : Hid (W1.heap.size = wr.heap.size + 1) := hnc
              clear hck hcc hcap hX hs1 hbc hlvr hci hstep her0
              go_wp2_with fail
              refine hFd.out.mono ?_
              rintro e w5 ⟨mv, v5, kk, rfl, hmv, happ, hfs5, hfr5, hkp5, hap5⟩
              have hH : w3.heap.size ≤ W1.heap.size := by have := hnc'.out; omega
              have hn5 : W1.heap.size ≤ w5.heap.size := hkp5.1.size
              have hgl5 : ∀ x, u14.ownBlock = some x → w3.heap.size ≤ x ∧ x < wr.heap.size := fun x hx => ownS_lt hgo.out hx
              have hfbH : fb < w3.heap.size := by have := hord.out; omega
              have hgo5 : OwnS w5 w3.heap.size u14 gms := ownS_of hgo.out (fun x hx => by
                have h1 := hgl5 x hx
                rw [hkp5.2 x (by have := hnc'.out; omega) (by omega) (fun hh => hap.out x hh hx), hbc'.out.block x h1.2])
              have hap6 : ∀ x, v5.ownBlock = some x → u14.ownBlock ≠ some x := fun x hx hh => by
                have h1 := hgl5 x hh
                rcases hfr5 with h2 | h2
                · exact hap.out x (by rw [← h2]; exact hx) hh
                · have := h2 x hx
                  have := hnc'.out
                  omega
              have hlen5 : Hid (gms.length + kk.length ≤ 134217728) := by
                have h1 := cut_ms_le 1048576 ((ps.take i).flatten ++ ci)
                rw [← happ, ← hgms.out, List.length_append, List.length_append] at h1
                have := hsum.out
                unfold Hid
                omega
              have hlow5 : Hid (∀ b, b < w3.heap.size → b ≠ fb → w5.heap[b]? = w3.heap[b]?) := fun b hb hbn => by
                rw [hkp5.2 b (by omega) hbn (fun hh => by have := (hst.out.high b hh).1; omega), hbc'.out.block b (by omega), hlow.out b hb hbn]
              have HB5 : Below w.heap.size w w5 := (HB.trans (hbc'.out.mono HB.size)).trans (hkp5.1.mono (by have := hord.out; have := hBw.out; omega))
              have hnew : Hid ((gms ++ kk) = (Cut 1048576 (ps.take (i + 1)).flatten).ms) := by unfold Hid; rw [hsum.out.2, ← happ, hgms.out]
              have hfs5' : Hid (FSt fb 1048576 (ps.take (i + 1)).flatten v5 w5 w3.heap.size) := by unfold Hid; rw [hsum.out.2]; exact hfs5
              have hmv' : Hid (OwnS w5 W1.heap.size mv kk) := hmv
              have hgo5' : Hid (OwnS w5 w3.heap.size u14 gms) := hgo5
              have hap6' : Hid (∀ x, v5.ownBlock = some x → u14.ownBlock ≠ some x) := hap6
              have hn53 : Hid (w3.heap.size ≤ w5.heap.size) := by unfold Hid; omega
              have hgl5' : Hid (∀ x, u14.ownBlock = some x → w3.heap.size ≤ x ∧ x < w5.heap.size) := fun x hx => ⟨(hgl5 x hx).1, by have := (hgl5 x hx).2; have := hnc'.out; omega⟩
              clear hcv hcell hFd hgo hst hap hlow HB hnr hmv happ hfs5 hfr5 hkp5 hap5 hH hn5 hgl5 hgo5 hap6 hgms
              go_wp2_with (at_builtin; refine push_many _ rfl _ _ rfl w3.heap.size W1.heap.size _ _ gms kk rfl rfl ?_ ?_ ?_ hlen5.out ?_; (exact hgo5'.out); (exact hmv'.out); (exact hn53.out); intro g6 w6 hown6 hblk6 hfr6 hb6)
              have hiw : Hid (wrap64 ((i : Int) + 1) = ((i + 1 : Nat) : Int)) := ws_next i (by have := hlt'.out; have := hpl'.out; have := hcl.out; omega)
              have hfin : Hid (FSt fb 1048576 (ps.take (i + 1)).flatten v5 w6 w3.heap.size ∧ (∀ x, v5.ownBlock = some x → g6.ownBlock ≠ some x) ∧ (∀ b, b < w3.heap.size → b ≠ fb → w6.heap[b]? = w3.heap[b]?) ∧ Below w.heap.size w w6 ∧ w3.heap.size ≤ w6.heap.size) := by
                unfold Hid
                have hn5 := hn53.out
                have hn6 : w5.heap.size ≤ w6.heap.size := hb6.size
                have hg := hgl5'.out
                refine ⟨hfs5'.out.of (hblk6 fb (by omega) (fun hh => by have := (hg fb hh).1; omega)) (fun x hx => hblk6 x (hfs5'.out.high x hx).2 (hap6'.out x hx)) hn6, fun x hx hh => ?_, fun b hb hbn => ?_, HB5.trans (hb6.mono (by have := hord.out; have := hBw.out; omega)), by omega⟩
                · rcases hfr6 with h1 | h1
                  · exact hap6'.out x hx (h1.symm.trans hh)
                  · have := h1 x hh
                    have := (hfs5'.out.high x hx).2
                    omega
                · rw [hblk6 b (by omega) (fun hh => by have := (hg b hh).1; omega), hlow5.out b hb hbn]
              refine ⟨⟨i + 1, v5, gms ++ kk, hlt'.out, by rw [hiw.out], hnew, hown6, hfin.out.1, hfin.out.2.1, hfin.out.2.2.1, hfin.out.2.2.2.1, hfin.out.2.2.2.2⟩, ?_⟩
              exact meas_next ps.length i hlt'.out hiw.out
            · have hie : i = ps.length := by omega
              subst hie
              rw [List.take_length, hfl'.out, hcut.out] at hgms
              rw [List.take_length, hfl'.out] at hst
              have hgm : gms = ms := hgms.out
              subst hgm
              obtain ⟨ga, gc, rfl⟩ := ownS_len hgo.out
              have hmsr : Hid (OwnS wr w.heap.size (.slice ma gms.length mc) gms) := ownS_of hms3.out (fun x hx => hlow.out x (ownS_lt hms3.out hx).2 (by have := hma1.out x hx; have := hord.out; omega))
              have hfitr : Hid (OwnS wr w.heap.size (.slice fa fit.length fc) fit) := ownS_of hfit3.out (fun x hx => hlow.out x (ownS_lt hfit3.out hx).2 (by have := hfa1.out x hx; have := hord.out; omega))
              have hml : Hid (gms.length ≤ 67108864) := by unfold Hid; have := hmf.out.2; have := hfs.out.2; omega
              have hsm : Hid (Calls Try.prog 8 #[.slice ga gms.length gc, .slice ma gms.length mc] wr fun r w' => r = .returned (.bool true) ∧ Below wr.heap.size wr w') := wsame_any gms _ _ _ _ wr hml.out hgo.out hmsr.out
              obtain ⟨hC9, ho9, hp9⟩ := hst.out.ok (by rw [hcut.out])
              rw [hcut.out] at hC9 ho9
              simp only [List.drop_length] at hC9 ho9
              have hHe : ∀ W : World, Below wr.heap.size wr W → Hid (Calls Try.prog 9 #[.pointer (some ⟨fb, 0, none⟩)] W fun e w' => e = .returned (.int .i64 0) ∧ W = w') := fun W hb => held_any fb 1048576 gms.flatten.length v _ [] W (hC9.of_block (hb.block _ hst.out.lt)) (fown_below ho9 (fun x hx => hb.block x (hst.out.high x hx).2))
              clear hp9 hgms hlow hap hC9 ho9 hst hms3 hfit3 hlv' hil hlt hfa1 hma1 hord hnr hBw hmsr
              go_wp2_with fail
              refine hsm.out.mono ?_
              rintro e w9 ⟨rfl, hb9⟩
              have HB9 : Below w.heap.size w w9 := HB.trans (hb9.mono HB.size)
              have hgo9 : Hid (OwnS w9 w3.heap.size (.slice ga gms.length gc) gms) := ownS_below hgo.out hb9
              have hfit9 : Hid (OwnS w9 w.heap.size (.slice fa fit.length fc) fit) := ownS_below hfitr.out hb9
              have hHe9 := hHe w9 hb9
              clear hsm hb9 HB hgo hfitr hHe
              go_wp2_with fail
              refine hHe9.out.mono ?_
              rintro e w10 ⟨rfl, rfl⟩
              clear hHe9
              go_wp2_with fail
              go_loopw [91] (fun iv wr => ∃ (i : Nat), i ≤ gms.length ∧ iv = .int .i64 (i : Int) ∧ Below w9.heap.size w9 wr) (fun iv _ => gms.length - (intOf iv).toNat)
              case atStart => exact ⟨0, Nat.zero_le _, rfl, Below.refl _ _⟩
              case round =>
                obtain ⟨i, hil, rfl, HBr⟩ := hrel
                have HBw : Below w.heap.size w wr := HB9.trans (HBr.mono HB9.size)
                by_cases h1 : i < gms.length
                · have hgr : OwnS wr w3.heap.size (.slice ga gms.length gc) gms := ownS_below hgo9.out HBr
                  have hfr : OwnS wr w.heap.size (.slice fa fit.length fc) fit := ownS_below hfit9.out HBr
                  have h2 : i < fit.length := by have := hmf.out.2; omega
                  rcases ownS_form hgr with ⟨_, hc⟩ | ⟨gl, lcap, hlve⟩
                  · rw [hc] at h1; simp at h1
                  injection hlve with hl1 hl2 hl3
                  subst hl1 hl3
                  rcases ownS_form hfr with ⟨_, hc⟩ | ⟨fl, fcap, hfve⟩
                  · rw [hc] at h2; simp at h2
                  injection hfve with hl1 hl2 hl3
                  subst hl1 hl3
                  have hcell := ownS_cell hgr i h1
                  have hcell2 := ownS_cell hfr i h2
                  have hgi : gms[i] = msgL fit[i] := by
                    have : gms[i]? = (fit.map msgL)[i]? := by rw [hms]
                    rw [List.getElem?_eq_getElem h1, List.getElem?_map, List.getElem?_eq_getElem h2] at this
                    injection this
                  rw [hgi] at hcell
                  obtain ⟨b, hb⟩ : ∃ b, fit[i] = b := ⟨_, rfl⟩
                  have hbl : b.length ≤ 1000000 := by rw [← hb]; exact hfw.out _ (List.getElem_mem h2)
                  rw [hb] at hcell hcell2
                  obtain ⟨X, hX⟩ : ∃ X, S b = X := ⟨_, rfl⟩
                  rw [hX] at hcell2
                  have hXb : X.data.toList = b := by rw [← hX, S_l]
                  rw [← hXb] at hcell
                  have hXs : X.size ≤ 1000000 := by rw [← size_l, hXb]; exact hbl
                  have HT := wtree_any X hXs wr
                  obtain ⟨M, hM⟩ : ∃ M, S (msgL X.data.toList) = M := ⟨_, rfl⟩
                  rw [hM] at hcell HT
                  have HT' : Hid (Calls Try.prog 10 #[.string M] wr fun r w' => (∃ v, r = .returned (.tuple #[v, .int .i64 0, .int .i64 0]) ∧ OwnN w' wr.heap.size v (nodesL 3 wD wC wT wM (wB X))) ∧ Below wr.heap.size wr w') := HT
                  have HI : ∀ W : World, Hid (Calls Try.prog 11 #[.string (S (enc (X.size : Int)))] W fun e w' => e = .returned (.tuple #[.int .i64 (X.size : Int), .int .i64 0]) ∧ W = w') := fun W => by
                    have h := int_any (S (enc (X.size : Int))) W
                    rw [S_l] at h
                    unfold intV at h
                    rw [if_pos (BerMath.okInt_enc _ (by omega) (by omega)), BerMath.val_enc _ (by omega) (by omega)] at h
                    exact h
                  have i0 : (0 : Int) ≤ (i : Int) := Int.natCast_nonneg _
                  have i1 : (i : Int) < (gms.length : Int) := Int.ofNat_lt.2 h1
                  have i2 : (i : Int) < (fit.length : Int) := Int.ofNat_lt.2 h2
                  have hmeas : Hid (gms.length - (i + 1) < gms.length - i) := by unfold Hid; omega
                  have h1' : Hid (i + 1 ≤ gms.length) := h1
                  have hle : gms.length ≤ 1048576 := by have := hmf.out.2; have := hfs.out.2; omega
                  have hc2 : Hid (wr.cell? ⟨fl, i, none⟩ = some (.string X)) := hcell2
                  clear hgi hb hbl hX hXb HT hM hfr hgr hl2 hcell2
                  go_wp2_with fail
                  refine HT'.out.mono ?_
                  rintro e w4 ⟨⟨v4, rfl, hov⟩, hb4⟩
                  obtain ⟨va, vc, rfl, hrow4⟩ := ownN_any hov
                  obtain ⟨nb, off, rfl, p0, p1, p2, p3, p4⟩ := hrow4 0 (by rw [nodesL_len]; omega)
                  obtain ⟨nb1, off1, he1, q0, q1, q2, q3, q4⟩ := hrow4 1 (by rw [nodesL_len]; omega)
                  injection he1 with he1
                  injection he1 with he1 he2
                  subst he1 he2
                  obtain ⟨nb1, off1, he1, r0, r1, r2, r3, r4⟩ := hrow4 2 (by rw [nodesL_len]; omega)
                  injection he1 with he1
                  injection he1 with he1 he2
                  subst he1 he2
                  replace p0 : w4.cell? ⟨nb, off, none⟩ = some (.int .i64 1) := p0
                  replace p2 : w4.cell? ⟨nb, off + 2, none⟩ = some (.bool true) := p2
                  replace q0 : w4.cell? ⟨nb, off + 5, none⟩ = some (.int .i64 2) := q0
                  replace q4 : w4.cell? ⟨nb, off + 9, none⟩ = some (.string X) := q4
                  replace r4 : w4.cell? ⟨nb, off + 14, none⟩ = some (.string (S (enc (X.size : Int)))) := r4
                  have c4 : w4.cell? ⟨fl, i, none⟩ = some (.string X) := by rw [hb4.cell (World.block_lt_of_cell? wr _ hc2.out)]; exact hc2.out
                  have HB4 : Below w9.heap.size w9 w4 := HBr.trans (hb4.mono HBr.size)
                  rw [nodesL_len]
                  clear hrow4 hov p1 p3 p4 q1 q2 q3 r0 r1 r2 r3 hb4 HT' hc2
                  go_wp2_with fail
                  go_quiet (fail)
                  go_wp2_with fail
                  refine (HI _).out.mono ?_
                  rintro e w11 ⟨rfl, rfl⟩
                  go_wp2_with fail
                  refine ⟨⟨i + 1, h1'.out, by simp, below_drewN HB4 _⟩, ?_⟩
                  have := hmeas.out
                  simp [intOf]
                  omega
                · have hie : i = gms.length := by omega
                  subst hie
                  have hle : gms.length = fit.length := hmf.out.2
                  have HNd : Hid (Calls Try.prog 12 #[.int .i64 1048576, .string ⟨#[]⟩] wr fun r w' => r = .returned (.int .i64 2) ∧ Below wr.heap.size wr w') := frameNeed_any 1048576 ⟨#[]⟩ wr (by decide)
                  clear hgo9 hfit9
                  go_wp2_with fail
                  refine HNd.out.mono ?_
                  rintro e w12 ⟨rfl, hb12⟩
                  go_wp2_with fail
                  go_ret
                  exact ⟨rfl, HBw.trans (hb12.mono HBw.size)⟩
end Go.Proofs.Ythaonpmmfennhaa
