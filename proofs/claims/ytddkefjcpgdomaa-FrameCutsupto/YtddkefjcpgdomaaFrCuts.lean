import Derived.Test.YtddkefjcpgdomaaFrCutsM
import Derived.Test.YtddkefjcpgdomaaFrPieces
namespace Go.Proofs.Ytddkefjcpgdomaa
open Go.RowKit
open FrMath (Hdr lb bd within Out ends cut Cut)

/-- All that stands when the loop begins. -/
theorem take_flat (ps : List (List UInt8)) (i : Nat) (hi : i < ps.length) : (ps.take (i + 1)).flatten = (ps.take i).flatten ++ ps[i] := by
  rw [List.take_succ_eq_append_getElem hi, List.flatten_append]
  simp only [List.flatten_cons, List.flatten_nil, List.append_nil]
theorem flat_len (ps : List (List UInt8)) (i : Nat) : (ps.take i).flatten.length ≤ ps.flatten.length := by
  have : ps.flatten = (ps.take i).flatten ++ (ps.drop i).flatten := by rw [← List.flatten_append, List.take_append_drop]
  rw [this, List.length_append]
  omega

set_option maxHeartbeats 1000000 in
theorem cuts_core (limit lim : Int) (s0 T : ByteArray) (a : Option Addr) (l c : Nat) (w : World) (hi : IsInts w a l) (hsz : s0.size + l ≤ 1048576) (hT : (⟨#[48, 3, 2, 1, 5]⟩ : ByteArray) ++ s0 = T) (hlim : (decide (limit < 8) = true ∧ lim = 8) ∨ (decide (limit < 8) = false ∧ limit = lim)) (h8 : 8 ≤ lim) :
    Calls Try.prog 8 #[.int .i64 limit, .string s0, .slice a l c] w fun e w' => e = .returned (.bool true) ∧ Below w.heap.size w w' := by
  have hTl : T.data.toList = [48, 3, 2, 1, 5] ++ s0.data.toList := by rw [← hT, app_l]
  have hTs : T.size = 5 + s0.size := by rw [← size_l, hTl, List.length_append, size_l]; rfl
  obtain ⟨o, ho⟩ : ∃ o, Cut lim T.data.toList = o := ⟨_, rfl⟩
  have A1 : Hid (asks lim T o) := asks_of lim T o (by omega) ho
  have hom : ∃ k, o.ms = [48, 3, 2, 1, 5] :: k := ⟨_, by rw [← ho, hTl, cut_first lim _ h8]; rfl⟩
  obtain ⟨k, hk⟩ := hom
  have hom2 : Hid (o.ms.length ≤ 4194304) := by
    have := cut_ms_le lim T.data.toList
    rw [ho, size_l] at this
    unfold Hid
    omega
  have HN : ∀ W, Hid (Calls Try.prog 17 #[.int .i64 lim] W fun e w' => ∃ fb, e = .returned (.pointer (some ⟨fb, 0, none⟩)) ∧ W.heap.size ≤ fb ∧ w'.heap.size = fb + 1 ∧ Cells w' fb (frL lim 0 (.slice none 0 0) ⟨2, 2, 0⟩) ∧ Below W.heap.size W w') := fun W => new_any lim W
  have HP : ∀ W, IsInts W a l → Hid (Calls Try.prog 20 #[.string T, .slice a l c] W fun e w' => ∃ v ps, e = .returned v ∧ OwnS w' W.heap.size v ps ∧ ps.flatten = T.data.toList ∧ ps.length ≤ l + 1 ∧ Below W.heap.size W w') := fun W hW => pieces_any T a l c W hW (by omega) (by omega)
  have hs1 : s0.size ≤ 1048576 := by omega
  have hs2 : Hid (T.size ≤ 1048581 ∧ l ≤ 1048576) := by unfold Hid; omega
  have hTl' : Hid (T.size = T.data.toList.length) := (size_l T).symm
  obtain ⟨ms, at_, er⟩ := o
  simp only at hk hom2
  clear hTl hTs hsz
  rcases hlim with ⟨d1, rfl⟩ | ⟨d1, rfl⟩
  · go_enter Try.func8, Try.ntmps8
    go_wp2_with fail
    refine (A1.out _).mono ?_
    rintro r w1 ⟨⟨cv, rfl, hownC⟩, hb1⟩
    replace hownC : OwnS w1 w.heap.size cv ms := hownC
    rw [hk] at hownC
    rcases ownS_form hownC with ⟨_, hc⟩ | ⟨gc, ccap, rfl⟩
    · cases hc
    have hc0 : w1.cell? ⟨gc, 0, none⟩ = some (.string ⟨#[48, 3, 2, 1, 5]⟩) := ownS_one hownC rfl
    have hgc : gc < w1.heap.size := World.block_lt_of_cell? w1 _ hc0
    rw [← hk] at hownC
    obtain ⟨L, hL⟩ : ∃ L, ([48, 3, 2, 1, 5] :: k).length = L := ⟨_, rfl⟩
    rw [hL]
    have hL0 : (0 : Int) < (L : Int) := by rw [← hL]; simp
    have hL1 : 0 < L := by rw [← hL]; simp
    have hL2 : ((L : Int) == 0) = false := by rw [beq_eq_false_iff_ne]; omega
    rw [hk, hL] at hownC
    clear hL
    go_wp2_with fail
    have HB1 : Below w.heap.size w (w1.alloc (.cells #[.slice (some ⟨gc, 0, none⟩) L ccap, .int .i64 (at_ : Int), .int .i64 (er : Int)] 26)) := hb1.alloc hb1.size _
    have hcb1 : Cells (w1.alloc (.cells #[.slice (some ⟨gc, 0, none⟩) L ccap, .int .i64 (at_ : Int), .int .i64 (er : Int)] 26)) w1.heap.size [.slice (some ⟨gc, 0, none⟩) L ccap, .int .i64 (at_ : Int), .int .i64 (er : Int)] := cells3_new _ _ _ _ _
    have hownC1 : OwnS (w1.alloc (.cells #[.slice (some ⟨gc, 0, none⟩) L ccap, .int .i64 (at_ : Int), .int .i64 (er : Int)] 26)) w.heap.size (.slice (some ⟨gc, 0, none⟩) L ccap) ([48, 3, 2, 1, 5] :: k) := World.ownsRow.alloc hownC _
    have hnw : w1.heap.size + 1 = (w1.alloc (.cells #[.slice (some ⟨gc, 0, none⟩) L ccap, .int .i64 (at_ : Int), .int .i64 (er : Int)] 26)).heap.size := by simp
    have hwb : w.heap.size ≤ w1.heap.size := hb1.size
    clear hownC hc0 hb1 hL0 hL1 hL2
    generalize w1.alloc (.cells #[.slice (some ⟨gc, 0, none⟩) L ccap, .int .i64 (at_ : Int), .int .i64 (er : Int)] 26) = wA at *
    refine (HN _).out.mono ?_
    rintro e w2 ⟨fb, rfl, hfb1, hfb2, hCf, hb2⟩
    have HB2 : Below w.heap.size w w2 := HB1.trans (hb2.mono HB1.size)
    go_wp2_with fail
    refine (HP _ (hi.below (Nat.le_refl _) HB2)).out.mono ?_
    rintro e w3 ⟨lv, ps, rfl, hlv, hfl, hpl, hb3⟩
    have HB3 : Below w.heap.size w w3 := HB2.trans (hb3.mono HB2.size)
    have hn3 : fb + 1 ≤ w3.heap.size := by have := hb3.size; omega
    have hcb3 : Hid (Cells w3 w1.heap.size [.slice (some ⟨gc, 0, none⟩) L ccap, .int .i64 (at_ : Int), .int .i64 (er : Int)]) := (hcb1.of_block (hb2.block _ (by omega))).of_block (hb3.block _ (by omega))
    have hownC3 : Hid (OwnS w3 w.heap.size (.slice (some ⟨gc, 0, none⟩) L ccap) ([48, 3, 2, 1, 5] :: k)) := ownS_below (ownS_below hownC1 hb2) hb3
    have hCf3 : Cells w3 fb (frL 8 0 (.slice none 0 0) ⟨2, 2, 0⟩) := hCf.of_block (hb3.block _ (by omega))
    have hfs : Hid (FSt fb 8 [] (.slice none 0 0) w3 w3.heap.size) := by
      refine ⟨fun _ => ⟨?_, ?_, proper_nil 8⟩, fun h => absurd (by rw [Cut_nil]) h, fun x hx => by cases hx⟩
      · rw [Cut_nil]; exact hCf3
      · rw [Cut_nil]; exact ⟨rfl, Or.inl ⟨rfl, rfl⟩⟩
    obtain ⟨la, lc, rfl⟩ := ownS_len hlv
    have hlv' : Hid (OwnS w3 w2.heap.size (.slice la ps.length lc) ps) := hlv
    have hfl' : Hid (ps.flatten = T.data.toList) := hfl
    have hpl' : Hid (ps.length ≤ l + 1) := hpl
    have hcbl : Hid (w1.heap.size < w3.heap.size ∧ w1.heap.size ≠ fb ∧ gc < w3.heap.size ∧ gc ≠ fb ∧ w2.heap.size ≤ w3.heap.size ∧ fb < w2.heap.size) := by unfold Hid; have := hb3.size; omega
    clear hownC1 hcb1 hCf hCf3 hlv hfl hpl hb2 hb3 HB1 HB2 hi HN HP
    go_wp2_with fail
    go_loopw [9, 10, 12] (fun gv ev iv wr => ∃ (i : Nat) (v : Value) (gms : List (List UInt8)), i ≤ ps.length ∧ iv = .int .i64 (i : Int) ∧ Hid (gms = (Cut 8 (ps.take i).flatten).ms) ∧ ev = .int .i64 ((Cut 8 (ps.take i).flatten).er : Int) ∧ Hid (OwnS wr w3.heap.size gv gms) ∧ Hid (FSt fb 8 (ps.take i).flatten v wr w3.heap.size) ∧ Hid (∀ x, v.ownBlock = some x → gv.ownBlock ≠ some x) ∧ Hid (∀ b, b < w3.heap.size → b ≠ fb → wr.heap[b]? = w3.heap[b]?) ∧ Below w.heap.size w wr ∧ w3.heap.size ≤ wr.heap.size) (fun _ _ iv _ => ps.length - (intOf iv).toNat)
    case atStart =>
      refine ⟨0, .slice none 0 0, [], Nat.zero_le _, rfl, ?_, ?_, ownS_nil _ _, ?_, ?_, ?_, HB3, Nat.le_refl _⟩
      · unfold Hid; rw [List.take_zero, List.flatten_nil, Cut_nil]
      · rw [List.take_zero, List.flatten_nil, Cut_nil]; rfl
      · unfold Hid; rw [List.take_zero, List.flatten_nil]; exact hfs.out
      · unfold Hid; intro x hx; cases hx
      · unfold Hid; intro b _ _; rfl
    case round =>
      obtain ⟨i, v, gms, hil, rfl, hgms, rfl, hgo, hst, hap, hlow, HB, hnr⟩ := hrel
      clear hfs HB3
      by_cases hlt : i < ps.length
      · have hlvr : OwnS wr w2.heap.size (.slice la ps.length lc) ps := ownS_of hlv'.out (fun x hx => hlow.out x (ownS_lt hlv'.out hx).2 (by have := (ownS_lt hlv'.out hx).1; have := hcbl.out; omega))
        rcases ownS_form hlvr with ⟨_, hc⟩ | ⟨gl, lcap, hlve⟩
        · rw [hc] at hlt; simp at hlt
        injection hlve with hl1 hl2 hl3
        subst hl1 hl3
        have hcell := ownS_cell hlvr i hlt
        obtain ⟨ci, hci⟩ : ∃ ci, ps[i]'hlt = ci := ⟨_, rfl⟩
        rw [hci] at hcell
        obtain ⟨X, hX⟩ : ∃ X, S ci = X := ⟨_, rfl⟩
        rw [hX] at hcell
        have hXl : Hid (X.data.toList = ci ∧ X.size = ci.length) := by unfold Hid; rw [← hX, S_l, S_size]; exact ⟨rfl, rfl⟩
        have hsum : Hid ((ps.take i).flatten.length + ci.length ≤ T.size ∧ (ps.take (i + 1)).flatten = (ps.take i).flatten ++ ci) := by
          unfold Hid
          have h1 := flat_len ps (i + 1)
          rw [take_flat ps i hlt, List.length_append, hfl'.out, ← hTl'.out, hci] at h1
          exact ⟨h1, by rw [take_flat ps i hlt, hci]⟩
        obtain ⟨W1, cap, hcv, hbc, hnc, hck, hcc, hcap⟩ := conv_chk wr X (by have := hsum.out; have := hXl.out; have := hs2.out; omega)
        have hs1 : FSt fb 8 (ps.take i).flatten v W1 w3.heap.size := hst.out.of (hbc.block _ hst.out.lt) (fun x hx => hbc.block x (hst.out.high x hx).2) hbc.size
        have hFd : Hid (Calls Try.prog 18 #[.pointer (some ⟨fb, 0, none⟩), .slice (some ⟨wr.heap.size, 0, none⟩) X.size cap] W1 fun e w' => ∃ mv v' k, e = .returned (.tuple #[mv, .int .i64 ((Cut 8 ((ps.take i).flatten ++ ci)).er : Int)]) ∧ OwnS w' W1.heap.size mv k ∧ (Cut 8 (ps.take i).flatten).ms ++ k = (Cut 8 ((ps.take i).flatten ++ ci)).ms ∧ FSt fb 8 ((ps.take i).flatten ++ ci) v' w' w3.heap.size ∧ Fresh v v' W1 ∧ Kept fb v W1 w' ∧ (∀ x, v'.ownBlock = some x → mv.ownBlock ≠ some x)) := by
          have h := feed_fst fb 8 (ps.take i).flatten ci v W1 w3.heap.size wr.heap.size cap hs1 (by omega) (by omega) (by have := hcbl.out; omega) (fun hh => by have := (hst.out.high _ hh).2; omega) (by rw [← hXl.out.1]; exact hck) (by rw [← hXl.out.2]; exact hcc) hcap (by have := hsum.out; have := hs2.out; omega)
          rw [← hXl.out.2] at h
          exact h
        have i0 : (0 : Int) ≤ (i : Int) := Int.natCast_nonneg _
        have i1 : (i : Int) < (ps.length : Int) := Int.ofNat_lt.2 hlt
        have hlt' : Hid (i < ps.length) := hlt
        have hbc' : Hid (Below wr.heap.size wr W1) := hbc
        have hnc' : Hid (W1.heap.size = wr.heap.size + 1) := hnc
        clear hck hcc hcap hX hs1 hbc hlvr hci
        go_wp2_with fail
        refine hFd.out.mono ?_
        rintro e w5 ⟨mv, v5, kk, rfl, hmv, happ, hfs5, hfr5, hkp5, hap5⟩
        have hH : w3.heap.size ≤ W1.heap.size := by have := hnc'.out; omega
        have hn5 : W1.heap.size ≤ w5.heap.size := hkp5.1.size
        have hgl5 : ∀ x, u9.ownBlock = some x → w3.heap.size ≤ x ∧ x < wr.heap.size := fun x hx => ownS_lt hgo.out hx
        have hfbH : fb < w3.heap.size := by have := hcbl.out; omega
        have hgo5 : OwnS w5 w3.heap.size u9 gms := ownS_of hgo.out (fun x hx => by
          have h1 := hgl5 x hx
          rw [hkp5.2 x (by have := hnc'.out; omega) (by omega) (fun hh => hap.out x hh hx), hbc'.out.block x h1.2])
        have hap6 : ∀ x, v5.ownBlock = some x → u9.ownBlock ≠ some x := fun x hx hh => by
          have h1 := hgl5 x hh
          rcases hfr5 with h2 | h2
          · exact hap.out x (by rw [← h2]; exact hx) hh
          · have := h2 x hx
            have := hnc'.out
            omega
        have hlen5 : Hid (gms.length + kk.length ≤ 8388608) := by
          have h1 := cut_ms_le 8 ((ps.take i).flatten ++ ci)
          rw [← happ, ← hgms.out, List.length_append, List.length_append] at h1
          have := hsum.out
          have := hs2.out
          unfold Hid
          omega
        have hlow5 : Hid (∀ b, b < w3.heap.size → b ≠ fb → w5.heap[b]? = w3.heap[b]?) := fun b hb hbn => by
          rw [hkp5.2 b (by omega) hbn (fun hh => by have := (hst.out.high b hh).1; omega), hbc'.out.block b (by omega), hlow.out b hb hbn]
        have HB5 : Below w.heap.size w w5 := (HB.trans (hbc'.out.mono HB.size)).trans (hkp5.1.mono (by omega))
        have hnew : Hid ((gms ++ kk) = (Cut 8 (ps.take (i + 1)).flatten).ms) := by unfold Hid; rw [hsum.out.2, ← happ, hgms.out]
        have hfs5' : Hid (FSt fb 8 (ps.take (i + 1)).flatten v5 w5 w3.heap.size) := by unfold Hid; rw [hsum.out.2]; exact hfs5
        have her' : Hid ((Cut 8 ((ps.take i).flatten ++ ci)).er = (Cut 8 (ps.take (i + 1)).flatten).er) := by unfold Hid; rw [hsum.out.2]
        have hmv' : Hid (OwnS w5 W1.heap.size mv kk) := hmv
        have hgo5' : Hid (OwnS w5 w3.heap.size u9 gms) := hgo5
        have hap6' : Hid (∀ x, v5.ownBlock = some x → u9.ownBlock ≠ some x) := hap6
        have hn53 : Hid (w3.heap.size ≤ w5.heap.size) := by unfold Hid; omega
        have hgl5' : Hid (∀ x, u9.ownBlock = some x → w3.heap.size ≤ x ∧ x < w5.heap.size) := fun x hx => ⟨(hgl5 x hx).1, by have := (hgl5 x hx).2; have := hnc'.out; omega⟩
        clear hcv hcell hFd hgo hst hap hlow HB hnr hmv happ hfs5 hfr5 hkp5 hap5 hH hn5 hgl5 hgo5 hap6 hgms
        go_wp2_with (at_builtin; refine push_many _ rfl _ _ rfl w3.heap.size W1.heap.size _ _ gms kk rfl rfl ?_ ?_ ?_ hlen5.out ?_; (exact hgo5'.out); (exact hmv'.out); (exact hn53.out); intro g6 w6 hown6 hblk6 hfr6 hb6)
        have hiw : Hid (wrap64 ((i : Int) + 1) = ((i + 1 : Nat) : Int)) := by have := hlt'.out; have := hpl'.out; have := hs2.out; unfold Hid wrap64; omega
        have hfin : Hid (FSt fb 8 (ps.take (i + 1)).flatten v5 w6 w3.heap.size ∧ (∀ x, v5.ownBlock = some x → g6.ownBlock ≠ some x) ∧ (∀ b, b < w3.heap.size → b ≠ fb → w6.heap[b]? = w3.heap[b]?) ∧ Below w.heap.size w w6 ∧ w3.heap.size ≤ w6.heap.size) := by
          unfold Hid
          have hn5 := hn53.out
          have hn6 : w5.heap.size ≤ w6.heap.size := hb6.size
          have hg := hgl5'.out
          refine ⟨hfs5'.out.of (hblk6 fb (by omega) (fun hh => by have := (hg fb hh).1; omega)) (fun x hx => hblk6 x (hfs5'.out.high x hx).2 (hap6'.out x hx)) hn6, fun x hx hh => ?_, fun b hb hbn => ?_, HB5.trans (hb6.mono (by omega)), by omega⟩
          · rcases hfr6 with h1 | h1
            · exact hap6'.out x hx (h1.symm.trans hh)
            · have := h1 x hh
              have := (hfs5'.out.high x hx).2
              omega
          · rw [hblk6 b (by omega) (fun hh => by have := (hg b hh).1; omega), hlow5.out b hb hbn]
        refine ⟨⟨i + 1, v5, gms ++ kk, hlt'.out, by rw [hiw.out], hnew, by rw [her'.out], hown6, hfin.out.1, hfin.out.2.1, hfin.out.2.2.1, hfin.out.2.2.2.1, hfin.out.2.2.2.2⟩, ?_⟩
        exact meas_next ps.length i hlt'.out hiw.out
      · have hie : i = ps.length := by omega
        subst hie
        rw [List.take_length, hfl'.out, ho] at hgms
        rw [List.take_length, hfl'.out] at hst
        rw [List.take_length, hfl'.out, ho]
        have hgms' : gms = [48, 3, 2, 1, 5] :: k := by rw [hgms.out]; exact hk
        subst hgms'
        have hcbr := hcb3.out.of_block (hlow.out _ hcbl.out.1 hcbl.out.2.1)
        obtain ⟨b0, b1, b2, _⟩ := cells3 hcbr
        have hownCr : Hid (OwnS wr w.heap.size (.slice (some ⟨gc, 0, none⟩) L ccap) ([48, 3, 2, 1, 5] :: k)) := ownS_of hownC3.out (fun x hx => by
          injection hx with hx
          replace hx : gc = x := hx
          subst hx
          exact hlow.out _ hcbl.out.2.2.1 hcbl.out.2.2.2.1)
        have hsm : Hid (Calls Try.prog 15 #[u9, .slice (some ⟨gc, 0, none⟩) L ccap] wr fun r w' => r = .returned (.bool true) ∧ Below wr.heap.size wr w') := same_any ([48, 3, 2, 1, 5] :: k) _ _ _ _ wr (by rw [← hk]; exact hom2.out) hgo.out hownCr.out
        have hfbw : w1.heap.size < wr.heap.size := by have := hcbl.out; omega
        clear hgo hownCr hlow hcb3 hownC3 hap hlv'
        go_wp2_with fail
        refine hsm.out.mono ?_
        rintro e w9 ⟨rfl, hb9⟩
        have HB9 : Below w.heap.size w w9 := HB.trans (hb9.mono HB.size)
        have hst9 : FSt fb 8 T.data.toList v w9 w3.heap.size := hst.out.of (hb9.block _ hst.out.lt) (fun x hx => hb9.block x (hst.out.high x hx).2) hb9.size
        have hcb9 := hcbr.of_block (hb9.block _ hfbw)
        obtain ⟨j0, j1, j2, _⟩ := cells3 hcb9
        clear hcbr b0 b1 b2 hsm hst hcb9
        by_cases her : er = 0
        · subst her
          obtain ⟨hC9, ho9, hp9⟩ := hst9.ok (by rw [ho])
          rw [ho] at hC9 ho9
          simp only at hC9 ho9
          have hatT : at_ ≤ T.size := by have := cut_at_le 8 T.data.toList; rw [ho, ← hTl'.out] at this; exact this
          obtain ⟨D, hD⟩ : ∃ D, T.size - at_ = D := ⟨_, rfl⟩
          have hdl : (T.data.toList.drop at_).length = D := by rw [List.length_drop, ← hTl'.out, hD]
          have hHd : ∀ n, Hid (Calls Try.prog 22 #[.pointer (some ⟨fb, 0, none⟩)] (w9.drewN n) fun e w' => e = .returned (.int .i64 (D : Int)) ∧ w' = w9.drewN n) := fun n => by
            have h := held_any fb 8 at_ v _ _ (w9.drewN n) hC9 ho9
            rw [hdl] at h
            exact h.mono (fun e w' ⟨h1, h2⟩ => ⟨h1, h2.symm⟩)
          have hDi : (T.size : Int) - (at_ : Int) = (D : Int) := by omega
          have hDD : Hid (wrap64 (D : Int) = (D : Int)) := by have := hs2.out; unfold Hid wrap64; omega
          clear hatT hD hdl hC9 ho9 hp9 hst9
          go_wp2_with fail
          go_quiet ((go_at_call 22; exact Calls.quiet_of_same (hHd _).out))
          go_wp2_with fail
          go_ret
          exact ⟨ret_bool (by rw [hDD.out]; exact beq_self_eq_true _), below_drewN HB9 _⟩
        · obtain ⟨hC9, ho9⟩ := hst9.bad (by rw [ho]; exact her)
          rw [ho] at hC9
          simp only at hC9
          have d5 : ((er : Int) != 0) = true := by simp; omega
          have hFt : Hid (Calls Try.prog 21 #[.pointer (some ⟨fb, 0, none⟩)] w9 fun e w' => e = .returned (.tuple #[.int .i64 (er : Int), .int .i64 (at_ : Int)]) ∧ ∃ n, w' = w9.drewN n) := fault_any fb 8 at_ er v w9 hC9 her
          have hHd : ∀ n, Hid (Calls Try.prog 22 #[.pointer (some ⟨fb, 0, none⟩)] (w9.drewN n) fun e w' => e = .returned (.int .i64 0) ∧ w9.drewN n = w') := fun n => held_any fb 8 at_ v _ [] (w9.drewN n) hC9 ho9
          clear hst9 hC9 ho9 her
          go_wp2_with fail
          refine hFt.out.mono ?_
          rintro e w10 ⟨rfl, nn, rfl⟩
          go_wp2_with fail
          refine (hHd _).out.mono ?_
          rintro e w11 ⟨rfl, rfl⟩
          go_wp2_with fail
          go_ret
          exact ⟨rfl, below_drewN HB9 _⟩
  · go_enter Try.func8, Try.ntmps8
    go_wp2_with fail
    refine (A1.out _).mono ?_
    rintro r w1 ⟨⟨cv, rfl, hownC⟩, hb1⟩
    replace hownC : OwnS w1 w.heap.size cv ms := hownC
    rw [hk] at hownC
    rcases ownS_form hownC with ⟨_, hc⟩ | ⟨gc, ccap, rfl⟩
    · cases hc
    have hc0 : w1.cell? ⟨gc, 0, none⟩ = some (.string ⟨#[48, 3, 2, 1, 5]⟩) := ownS_one hownC rfl
    have hgc : gc < w1.heap.size := World.block_lt_of_cell? w1 _ hc0
    rw [← hk] at hownC
    obtain ⟨L, hL⟩ : ∃ L, ([48, 3, 2, 1, 5] :: k).length = L := ⟨_, rfl⟩
    rw [hL]
    have hL0 : (0 : Int) < (L : Int) := by rw [← hL]; simp
    have hL1 : 0 < L := by rw [← hL]; simp
    have hL2 : ((L : Int) == 0) = false := by rw [beq_eq_false_iff_ne]; omega
    rw [hk, hL] at hownC
    clear hL
    go_wp2_with fail
    have HB1 : Below w.heap.size w (w1.alloc (.cells #[.slice (some ⟨gc, 0, none⟩) L ccap, .int .i64 (at_ : Int), .int .i64 (er : Int)] 26)) := hb1.alloc hb1.size _
    have hcb1 : Cells (w1.alloc (.cells #[.slice (some ⟨gc, 0, none⟩) L ccap, .int .i64 (at_ : Int), .int .i64 (er : Int)] 26)) w1.heap.size [.slice (some ⟨gc, 0, none⟩) L ccap, .int .i64 (at_ : Int), .int .i64 (er : Int)] := cells3_new _ _ _ _ _
    have hownC1 : OwnS (w1.alloc (.cells #[.slice (some ⟨gc, 0, none⟩) L ccap, .int .i64 (at_ : Int), .int .i64 (er : Int)] 26)) w.heap.size (.slice (some ⟨gc, 0, none⟩) L ccap) ([48, 3, 2, 1, 5] :: k) := World.ownsRow.alloc hownC _
    have hnw : w1.heap.size + 1 = (w1.alloc (.cells #[.slice (some ⟨gc, 0, none⟩) L ccap, .int .i64 (at_ : Int), .int .i64 (er : Int)] 26)).heap.size := by simp
    have hwb : w.heap.size ≤ w1.heap.size := hb1.size
    clear hownC hc0 hb1 hL0 hL1 hL2
    generalize w1.alloc (.cells #[.slice (some ⟨gc, 0, none⟩) L ccap, .int .i64 (at_ : Int), .int .i64 (er : Int)] 26) = wA at *
    refine (HN _).out.mono ?_
    rintro e w2 ⟨fb, rfl, hfb1, hfb2, hCf, hb2⟩
    have HB2 : Below w.heap.size w w2 := HB1.trans (hb2.mono HB1.size)
    go_wp2_with fail
    refine (HP _ (hi.below (Nat.le_refl _) HB2)).out.mono ?_
    rintro e w3 ⟨lv, ps, rfl, hlv, hfl, hpl, hb3⟩
    have HB3 : Below w.heap.size w w3 := HB2.trans (hb3.mono HB2.size)
    have hn3 : fb + 1 ≤ w3.heap.size := by have := hb3.size; omega
    have hcb3 : Hid (Cells w3 w1.heap.size [.slice (some ⟨gc, 0, none⟩) L ccap, .int .i64 (at_ : Int), .int .i64 (er : Int)]) := (hcb1.of_block (hb2.block _ (by omega))).of_block (hb3.block _ (by omega))
    have hownC3 : Hid (OwnS w3 w.heap.size (.slice (some ⟨gc, 0, none⟩) L ccap) ([48, 3, 2, 1, 5] :: k)) := ownS_below (ownS_below hownC1 hb2) hb3
    have hCf3 : Cells w3 fb (frL limit 0 (.slice none 0 0) ⟨2, 2, 0⟩) := hCf.of_block (hb3.block _ (by omega))
    have hfs : Hid (FSt fb limit [] (.slice none 0 0) w3 w3.heap.size) := by
      refine ⟨fun _ => ⟨?_, ?_, proper_nil limit⟩, fun h => absurd (by rw [Cut_nil]) h, fun x hx => by cases hx⟩
      · rw [Cut_nil]; exact hCf3
      · rw [Cut_nil]; exact ⟨rfl, Or.inl ⟨rfl, rfl⟩⟩
    obtain ⟨la, lc, rfl⟩ := ownS_len hlv
    have hlv' : Hid (OwnS w3 w2.heap.size (.slice la ps.length lc) ps) := hlv
    have hfl' : Hid (ps.flatten = T.data.toList) := hfl
    have hpl' : Hid (ps.length ≤ l + 1) := hpl
    have hcbl : Hid (w1.heap.size < w3.heap.size ∧ w1.heap.size ≠ fb ∧ gc < w3.heap.size ∧ gc ≠ fb ∧ w2.heap.size ≤ w3.heap.size ∧ fb < w2.heap.size) := by unfold Hid; have := hb3.size; omega
    clear hownC1 hcb1 hCf hCf3 hlv hfl hpl hb2 hb3 HB1 HB2 hi HN HP
    go_wp2_with fail
    go_loopw [9, 10, 12] (fun gv ev iv wr => ∃ (i : Nat) (v : Value) (gms : List (List UInt8)), i ≤ ps.length ∧ iv = .int .i64 (i : Int) ∧ Hid (gms = (Cut limit (ps.take i).flatten).ms) ∧ ev = .int .i64 ((Cut limit (ps.take i).flatten).er : Int) ∧ Hid (OwnS wr w3.heap.size gv gms) ∧ Hid (FSt fb limit (ps.take i).flatten v wr w3.heap.size) ∧ Hid (∀ x, v.ownBlock = some x → gv.ownBlock ≠ some x) ∧ Hid (∀ b, b < w3.heap.size → b ≠ fb → wr.heap[b]? = w3.heap[b]?) ∧ Below w.heap.size w wr ∧ w3.heap.size ≤ wr.heap.size) (fun _ _ iv _ => ps.length - (intOf iv).toNat)
    case atStart =>
      refine ⟨0, .slice none 0 0, [], Nat.zero_le _, rfl, ?_, ?_, ownS_nil _ _, ?_, ?_, ?_, HB3, Nat.le_refl _⟩
      · unfold Hid; rw [List.take_zero, List.flatten_nil, Cut_nil]
      · rw [List.take_zero, List.flatten_nil, Cut_nil]; rfl
      · unfold Hid; rw [List.take_zero, List.flatten_nil]; exact hfs.out
      · unfold Hid; intro x hx; cases hx
      · unfold Hid; intro b _ _; rfl
    case round =>
      obtain ⟨i, v, gms, hil, rfl, hgms, rfl, hgo, hst, hap, hlow, HB, hnr⟩ := hrel
      clear hfs HB3
      by_cases hlt : i < ps.length
      · have hlvr : OwnS wr w2.heap.size (.slice la ps.length lc) ps := ownS_of hlv'.out (fun x hx => hlow.out x (ownS_lt hlv'.out hx).2 (by have := (ownS_lt hlv'.out hx).1; have := hcbl.out; omega))
        rcases ownS_form hlvr with ⟨_, hc⟩ | ⟨gl, lcap, hlve⟩
        · rw [hc] at hlt; simp at hlt
        injection hlve with hl1 hl2 hl3
        subst hl1 hl3
        have hcell := ownS_cell hlvr i hlt
        obtain ⟨ci, hci⟩ : ∃ ci, ps[i]'hlt = ci := ⟨_, rfl⟩
        rw [hci] at hcell
        obtain ⟨X, hX⟩ : ∃ X, S ci = X := ⟨_, rfl⟩
        rw [hX] at hcell
        have hXl : Hid (X.data.toList = ci ∧ X.size = ci.length) := by unfold Hid; rw [← hX, S_l, S_size]; exact ⟨rfl, rfl⟩
        have hsum : Hid ((ps.take i).flatten.length + ci.length ≤ T.size ∧ (ps.take (i + 1)).flatten = (ps.take i).flatten ++ ci) := by
          unfold Hid
          have h1 := flat_len ps (i + 1)
          rw [take_flat ps i hlt, List.length_append, hfl'.out, ← hTl'.out, hci] at h1
          exact ⟨h1, by rw [take_flat ps i hlt, hci]⟩
        obtain ⟨W1, cap, hcv, hbc, hnc, hck, hcc, hcap⟩ := conv_chk wr X (by have := hsum.out; have := hXl.out; have := hs2.out; omega)
        have hs1 : FSt fb limit (ps.take i).flatten v W1 w3.heap.size := hst.out.of (hbc.block _ hst.out.lt) (fun x hx => hbc.block x (hst.out.high x hx).2) hbc.size
        have hFd : Hid (Calls Try.prog 18 #[.pointer (some ⟨fb, 0, none⟩), .slice (some ⟨wr.heap.size, 0, none⟩) X.size cap] W1 fun e w' => ∃ mv v' k, e = .returned (.tuple #[mv, .int .i64 ((Cut limit ((ps.take i).flatten ++ ci)).er : Int)]) ∧ OwnS w' W1.heap.size mv k ∧ (Cut limit (ps.take i).flatten).ms ++ k = (Cut limit ((ps.take i).flatten ++ ci)).ms ∧ FSt fb limit ((ps.take i).flatten ++ ci) v' w' w3.heap.size ∧ Fresh v v' W1 ∧ Kept fb v W1 w' ∧ (∀ x, v'.ownBlock = some x → mv.ownBlock ≠ some x)) := by
          have h := feed_fst fb limit (ps.take i).flatten ci v W1 w3.heap.size wr.heap.size cap hs1 (by omega) (by omega) (by have := hcbl.out; omega) (fun hh => by have := (hst.out.high _ hh).2; omega) (by rw [← hXl.out.1]; exact hck) (by rw [← hXl.out.2]; exact hcc) hcap (by have := hsum.out; have := hs2.out; omega)
          rw [← hXl.out.2] at h
          exact h
        have i0 : (0 : Int) ≤ (i : Int) := Int.natCast_nonneg _
        have i1 : (i : Int) < (ps.length : Int) := Int.ofNat_lt.2 hlt
        have hlt' : Hid (i < ps.length) := hlt
        have hbc' : Hid (Below wr.heap.size wr W1) := hbc
        have hnc' : Hid (W1.heap.size = wr.heap.size + 1) := hnc
        clear hck hcc hcap hX hs1 hbc hlvr hci
        go_wp2_with fail
        refine hFd.out.mono ?_
        rintro e w5 ⟨mv, v5, kk, rfl, hmv, happ, hfs5, hfr5, hkp5, hap5⟩
        have hH : w3.heap.size ≤ W1.heap.size := by have := hnc'.out; omega
        have hn5 : W1.heap.size ≤ w5.heap.size := hkp5.1.size
        have hgl5 : ∀ x, u9.ownBlock = some x → w3.heap.size ≤ x ∧ x < wr.heap.size := fun x hx => ownS_lt hgo.out hx
        have hfbH : fb < w3.heap.size := by have := hcbl.out; omega
        have hgo5 : OwnS w5 w3.heap.size u9 gms := ownS_of hgo.out (fun x hx => by
          have h1 := hgl5 x hx
          rw [hkp5.2 x (by have := hnc'.out; omega) (by omega) (fun hh => hap.out x hh hx), hbc'.out.block x h1.2])
        have hap6 : ∀ x, v5.ownBlock = some x → u9.ownBlock ≠ some x := fun x hx hh => by
          have h1 := hgl5 x hh
          rcases hfr5 with h2 | h2
          · exact hap.out x (by rw [← h2]; exact hx) hh
          · have := h2 x hx
            have := hnc'.out
            omega
        have hlen5 : Hid (gms.length + kk.length ≤ 8388608) := by
          have h1 := cut_ms_le limit ((ps.take i).flatten ++ ci)
          rw [← happ, ← hgms.out, List.length_append, List.length_append] at h1
          have := hsum.out
          have := hs2.out
          unfold Hid
          omega
        have hlow5 : Hid (∀ b, b < w3.heap.size → b ≠ fb → w5.heap[b]? = w3.heap[b]?) := fun b hb hbn => by
          rw [hkp5.2 b (by omega) hbn (fun hh => by have := (hst.out.high b hh).1; omega), hbc'.out.block b (by omega), hlow.out b hb hbn]
        have HB5 : Below w.heap.size w w5 := (HB.trans (hbc'.out.mono HB.size)).trans (hkp5.1.mono (by omega))
        have hnew : Hid ((gms ++ kk) = (Cut limit (ps.take (i + 1)).flatten).ms) := by unfold Hid; rw [hsum.out.2, ← happ, hgms.out]
        have hfs5' : Hid (FSt fb limit (ps.take (i + 1)).flatten v5 w5 w3.heap.size) := by unfold Hid; rw [hsum.out.2]; exact hfs5
        have her' : Hid ((Cut limit ((ps.take i).flatten ++ ci)).er = (Cut limit (ps.take (i + 1)).flatten).er) := by unfold Hid; rw [hsum.out.2]
        have hmv' : Hid (OwnS w5 W1.heap.size mv kk) := hmv
        have hgo5' : Hid (OwnS w5 w3.heap.size u9 gms) := hgo5
        have hap6' : Hid (∀ x, v5.ownBlock = some x → u9.ownBlock ≠ some x) := hap6
        have hn53 : Hid (w3.heap.size ≤ w5.heap.size) := by unfold Hid; omega
        have hgl5' : Hid (∀ x, u9.ownBlock = some x → w3.heap.size ≤ x ∧ x < w5.heap.size) := fun x hx => ⟨(hgl5 x hx).1, by have := (hgl5 x hx).2; have := hnc'.out; omega⟩
        clear hcv hcell hFd hgo hst hap hlow HB hnr hmv happ hfs5 hfr5 hkp5 hap5 hH hn5 hgl5 hgo5 hap6 hgms
        go_wp2_with (at_builtin; refine push_many _ rfl _ _ rfl w3.heap.size W1.heap.size _ _ gms kk rfl rfl ?_ ?_ ?_ hlen5.out ?_; (exact hgo5'.out); (exact hmv'.out); (exact hn53.out); intro g6 w6 hown6 hblk6 hfr6 hb6)
        have hiw : Hid (wrap64 ((i : Int) + 1) = ((i + 1 : Nat) : Int)) := by have := hlt'.out; have := hpl'.out; have := hs2.out; unfold Hid wrap64; omega
        have hfin : Hid (FSt fb limit (ps.take (i + 1)).flatten v5 w6 w3.heap.size ∧ (∀ x, v5.ownBlock = some x → g6.ownBlock ≠ some x) ∧ (∀ b, b < w3.heap.size → b ≠ fb → w6.heap[b]? = w3.heap[b]?) ∧ Below w.heap.size w w6 ∧ w3.heap.size ≤ w6.heap.size) := by
          unfold Hid
          have hn5 := hn53.out
          have hn6 : w5.heap.size ≤ w6.heap.size := hb6.size
          have hg := hgl5'.out
          refine ⟨hfs5'.out.of (hblk6 fb (by omega) (fun hh => by have := (hg fb hh).1; omega)) (fun x hx => hblk6 x (hfs5'.out.high x hx).2 (hap6'.out x hx)) hn6, fun x hx hh => ?_, fun b hb hbn => ?_, HB5.trans (hb6.mono (by omega)), by omega⟩
          · rcases hfr6 with h1 | h1
            · exact hap6'.out x hx (h1.symm.trans hh)
            · have := h1 x hh
              have := (hfs5'.out.high x hx).2
              omega
          · rw [hblk6 b (by omega) (fun hh => by have := (hg b hh).1; omega), hlow5.out b hb hbn]
        refine ⟨⟨i + 1, v5, gms ++ kk, hlt'.out, by rw [hiw.out], hnew, by rw [her'.out], hown6, hfin.out.1, hfin.out.2.1, hfin.out.2.2.1, hfin.out.2.2.2.1, hfin.out.2.2.2.2⟩, ?_⟩
        exact meas_next ps.length i hlt'.out hiw.out
      · have hie : i = ps.length := by omega
        subst hie
        rw [List.take_length, hfl'.out, ho] at hgms
        rw [List.take_length, hfl'.out] at hst
        rw [List.take_length, hfl'.out, ho]
        have hgms' : gms = [48, 3, 2, 1, 5] :: k := by rw [hgms.out]; exact hk
        subst hgms'
        have hcbr := hcb3.out.of_block (hlow.out _ hcbl.out.1 hcbl.out.2.1)
        obtain ⟨b0, b1, b2, _⟩ := cells3 hcbr
        have hownCr : Hid (OwnS wr w.heap.size (.slice (some ⟨gc, 0, none⟩) L ccap) ([48, 3, 2, 1, 5] :: k)) := ownS_of hownC3.out (fun x hx => by
          injection hx with hx
          replace hx : gc = x := hx
          subst hx
          exact hlow.out _ hcbl.out.2.2.1 hcbl.out.2.2.2.1)
        have hsm : Hid (Calls Try.prog 15 #[u9, .slice (some ⟨gc, 0, none⟩) L ccap] wr fun r w' => r = .returned (.bool true) ∧ Below wr.heap.size wr w') := same_any ([48, 3, 2, 1, 5] :: k) _ _ _ _ wr (by rw [← hk]; exact hom2.out) hgo.out hownCr.out
        have hfbw : w1.heap.size < wr.heap.size := by have := hcbl.out; omega
        clear hgo hownCr hlow hcb3 hownC3 hap hlv'
        go_wp2_with fail
        refine hsm.out.mono ?_
        rintro e w9 ⟨rfl, hb9⟩
        have HB9 : Below w.heap.size w w9 := HB.trans (hb9.mono HB.size)
        have hst9 : FSt fb limit T.data.toList v w9 w3.heap.size := hst.out.of (hb9.block _ hst.out.lt) (fun x hx => hb9.block x (hst.out.high x hx).2) hb9.size
        have hcb9 := hcbr.of_block (hb9.block _ hfbw)
        obtain ⟨j0, j1, j2, _⟩ := cells3 hcb9
        clear hcbr b0 b1 b2 hsm hst hcb9
        by_cases her : er = 0
        · subst her
          obtain ⟨hC9, ho9, hp9⟩ := hst9.ok (by rw [ho])
          rw [ho] at hC9 ho9
          simp only at hC9 ho9
          have hatT : at_ ≤ T.size := by have := cut_at_le limit T.data.toList; rw [ho, ← hTl'.out] at this; exact this
          obtain ⟨D, hD⟩ : ∃ D, T.size - at_ = D := ⟨_, rfl⟩
          have hdl : (T.data.toList.drop at_).length = D := by rw [List.length_drop, ← hTl'.out, hD]
          have hHd : ∀ n, Hid (Calls Try.prog 22 #[.pointer (some ⟨fb, 0, none⟩)] (w9.drewN n) fun e w' => e = .returned (.int .i64 (D : Int)) ∧ w' = w9.drewN n) := fun n => by
            have h := held_any fb limit at_ v _ _ (w9.drewN n) hC9 ho9
            rw [hdl] at h
            exact h.mono (fun e w' ⟨h1, h2⟩ => ⟨h1, h2.symm⟩)
          have hDi : (T.size : Int) - (at_ : Int) = (D : Int) := by omega
          have hDD : Hid (wrap64 (D : Int) = (D : Int)) := by have := hs2.out; unfold Hid wrap64; omega
          clear hatT hD hdl hC9 ho9 hp9 hst9
          go_wp2_with fail
          go_quiet ((go_at_call 22; exact Calls.quiet_of_same (hHd _).out))
          go_wp2_with fail
          go_ret
          exact ⟨ret_bool (by rw [hDD.out]; exact beq_self_eq_true _), below_drewN HB9 _⟩
        · obtain ⟨hC9, ho9⟩ := hst9.bad (by rw [ho]; exact her)
          rw [ho] at hC9
          simp only at hC9
          have d5 : ((er : Int) != 0) = true := by simp; omega
          have hFt : Hid (Calls Try.prog 21 #[.pointer (some ⟨fb, 0, none⟩)] w9 fun e w' => e = .returned (.tuple #[.int .i64 (er : Int), .int .i64 (at_ : Int)]) ∧ ∃ n, w' = w9.drewN n) := fault_any fb limit at_ er v w9 hC9 her
          have hHd : ∀ n, Hid (Calls Try.prog 22 #[.pointer (some ⟨fb, 0, none⟩)] (w9.drewN n) fun e w' => e = .returned (.int .i64 0) ∧ w9.drewN n = w') := fun n => held_any fb limit at_ v _ [] (w9.drewN n) hC9 ho9
          clear hst9 hC9 ho9 her
          go_wp2_with fail
          refine hFt.out.mono ?_
          rintro e w10 ⟨rfl, nn, rfl⟩
          go_wp2_with fail
          refine (hHd _).out.mono ?_
          rintro e w11 ⟨rfl, rfl⟩
          go_wp2_with fail
          go_ret
          exact ⟨rfl, below_drewN HB9 _⟩

theorem frameCuts_walk (limit : Int) (s0 : ByteArray) (a : Option Addr) (l c : Nat) (w : World) (hi : IsInts w a l) (hsz : s0.size + l ≤ 1048576) :
    Calls Try.prog 8 #[.int .i64 limit, .string s0, .slice a l c] w fun e w' => e = .returned (.bool true) ∧ Below w.heap.size w w' := by
  by_cases h : limit < 8
  · exact cuts_core limit 8 s0 _ a l c w hi hsz rfl (Or.inl ⟨decide_eq_true h, rfl⟩) (by omega)
  · exact cuts_core limit limit s0 _ a l c w hi hsz rfl (Or.inr ⟨decide_eq_false h, rfl⟩) (by omega)
end Go.Proofs.Ytddkefjcpgdomaa
