import Derived.Test.YtgfonnjblbpogaaBkV
import Derived.Test.YtgfonnjblbpogaaBhSou2
import Derived.BigQuiet
namespace Go.Proofs.Ytgfonnjblbpogaa
open Go.RowKit
open BerMath (Hd HR num hAt wAt)
set_option linter.unusedVariables false

theorem whole_facts {n : Nat} {D C T : Nat → Int} {M : Nat → Bool} {B : Nat → ByteArray} {H : Nat → List UInt8} {L : Nat → Nat} (hG : ∀ i, i < n → Good D C T M B i) (hF : SpF n D C T M B H L) (hn : 0 < n) (hM : M 0 = true) :
    headV (S (outB H B 0 n)) = .tuple #[.agg #[.int .i64 ((C 0).toNat : Int), .bool true, .int .i64 ((T 0).toNat : Int), .int .i64 (L 0 : Int), .int .i64 ((2 + ll (L 0) : Nat) : Int)], .int .i64 0] ∧ (S (outB H B 0 n)).size = 2 + ll (L 0) + L 0 ∧ (S (outB H B 0 n)).extract (2 + ll (L 0)) (S (outB H B 0 n)).size = S (outB H B 1 (n - 1)) := by
  obtain ⟨f1, f2, f3, f4, _⟩ := nxt_facts hG 0 hn
  obtain ⟨g1, g2, g3, g4, _, _, g7, g8, _⟩ := hG 0 hn
  have hx : nxt D n 0 = n := by
    rcases Nat.lt_or_ge (nxt D n 0) n with q | q
    · have h1 := f4 q
      obtain ⟨j, hj⟩ : ∃ j, nxt D n 0 = j + 1 := ⟨nxt D n 0 - 1, by omega⟩
      have h2 := ((hG _ q).2.2.2.2.2.2.2.2 j hj).1
      have := g8 rfl
      omega
    · omega
  obtain ⟨a1, a2, _⟩ := hF 0 hn
  have hc : outB H B 0 n = H 0 ++ bodyK D n B H 0 := by
    have := chunk (D := D) (n := n) (c := 0) (B := B) (H := H) f1
    rw [hx, Nat.sub_zero] at this
    exact this
  have hl := bodyK_len hG hF 0 hn
  have hb : bodyK D n B H 0 = outB H B 1 (n - 1) := by
    unfold bodyK
    rw [hx]
    have : (B 0).data.toList = [] := List.eq_nil_of_length_eq_zero (by rw [size_l]; exact empty_size (g7 hM))
    rw [this, List.nil_append]
  have hs : (S (outB H B 0 n)).size = 2 + ll (L 0) + L 0 := by rw [S_size, hc, List.length_append, hl, a1, hdrL_len]
  refine ⟨?_, hs, ?_⟩
  · have hh : hAt (S (outB H B 0 n)).data.toList 0 (S (outB H B 0 n)).size = .ok ⟨(C 0).toNat, M 0, (T 0).toNat, L 0, 2 + ll (L 0)⟩ := by
      rw [S_l, hs, hc, a1]
      exact hAt_hdr _ _ _ _ _ _ _ (by omega) (by omega) a2 (by omega)
    unfold headV
    rw [hh, hM]
    rfl
  · rw [← S_of ((S (outB H B 0 n)).extract (2 + ll (L 0)) (S (outB H B 0 n)).size), drop_l, S_l, hc, a1, hb, show 2 + ll (L 0) = (hdrL (C 0).toNat (M 0) (T 0).toNat (L 0) (ll (L 0))).length from (hdrL_len _ _ _ _ _).symm, List.drop_left]
theorem ownL_below {w w' : World} {B : Nat} {v : Value} {l : List UInt8} (h : Own w B v l) (hb : Below w.heap.size w w') : Own w' B v l := by
  rcases h with ⟨h1, ⟨rfl, h2⟩ | ⟨g, cap, cur, rfl, h3, h4, h5⟩⟩
  · exact ⟨h1, Or.inl ⟨rfl, h2⟩⟩
  · exact ⟨h1, Or.inr ⟨g, cap, cur, rfl, h3, by rw [hb.block g (Array.getElem?_eq_some_iff.1 h4).1]; exact h4, h5⟩⟩
theorem wr_two (a b c : Nat) (h : a + b = c) (hc : c ≤ 4294967296) : wrap64 ((a : Int) + (b : Int)) = (c : Int) := by unfold wrap64; omega

set_option maxRecDepth 100000 in
set_option maxHeartbeats 4000000 in
theorem berKids_walk (a : Option Addr) (n c : Nat) (D C T : Nat → Int) (M : Nat → Bool) (B : Nat → ByteArray) (w : World) (hn : IsNodes w a n D C T M B) (hl : n ≤ 140737488355328) (hB : ∀ i, i < n → (B i).size ≤ 140737488355328) :
    Calls Try.prog 6 #[.slice a n c] w fun e w' => e = .returned (.bool true) ∧ Below w.heap.size w w' := by
  have HS : Hid (Calls Try.prog 10 #[.slice a n c] w fun e w' => SndR2 e n D C T M B ∧ Below w.heap.size w w') := sound2_any a n c D C T M B w hn hl
  have HH : Hid (IsNodes w a n D C T M B ∧ n ≤ 140737488355328 ∧ (∀ i, i < n → (B i).size ≤ 140737488355328)) := ⟨hn, hl, hB⟩
  clear hn hl hB
  go_enter Try.func6, Try.ntmps6
  go_wp2_with fail
  refine HS.out.mono ?_
  rintro e w1 ⟨⟨g, rfl, hg⟩, hb1⟩
  have HM : Hid (Calls Try.prog 11 #[.slice a n c] w1 fun e w' => SmlR e n B ∧ Below w1.heap.size w1 w') := small_any a n c D C T M B w1 (HH.out.1.below hb1) HH.out.2.1 HH.out.2.2
  have hg' : Hid (g = true ↔ (0 < n ∧ ∀ i, i < n → Good D C T M B i)) := hg
  clear hg
  go_wp2_with fail
  refine HM.out.mono ?_
  rintro e w2 ⟨⟨o, rfl, ho⟩, hb2⟩
  have ho' : Hid (o = true → bsum B n ≤ 67108864) := ho
  have HB2 : Hid (Below w.heap.size w w2) := hb1.trans (hb2.mono hb1.size)
  clear ho hb1 hb2 HM HS
  cases g
  · go_wp2_with fail
    go_ret
    exact ⟨rfl, HB2.out⟩
  cases o
  · go_wp2_with fail
    go_ret
    exact ⟨rfl, HB2.out⟩
  have hGd : Hid (0 < n ∧ ∀ i, i < n → Good D C T M B i) := hg'.out.1 rfl
  have hSm : Hid (bsum B n ≤ 67108864) := ho'.out rfl
  have hnn : Hid (n ≤ 67108864) := by unfold Hid; have := bsum_six B n; have := hSm.out; omega
  clear hg' ho'
  have hI0 := HH.out.1.below HB2.out
  obtain ⟨b, off, hab, c0, c1, c2, c3, c4⟩ := hI0 0 hGd.out.1
  subst hab
  have n0 : (0 : Int) < (n : Int) := Int.ofNat_lt.2 hGd.out.1
  simp only [Nat.zero_mul, Nat.add_zero] at c2
  clear c0 c1 c3 c4 hI0
  obtain ⟨m0, hm0⟩ : ∃ m, M 0 = m := ⟨_, rfl⟩
  rw [hm0] at c2
  have hm0' : Hid (M 0 = m0) := hm0
  clear hm0
  cases m0
  · go_wp2_with fail
    go_ret
    exact ⟨rfl, HB2.out⟩
  have HW : Hid (Calls Try.prog 13 #[.slice (some ⟨b, off, none⟩) n c] w2 fun e w' => WrE e n D C T M B ∧ Below w2.heap.size w2 w') := write_any (some ⟨b, off, none⟩) n c D C T M B w2 (HH.out.1.below HB2.out) hSm.out
  go_wp2_with fail
  refine HW.out.mono ?_
  rintro e w3 ⟨hE, hb3⟩
  have HB3 : Hid (Below w.heap.size w w3) := HB2.out.trans (hb3.mono HB2.out.size)
  obtain ⟨H, σ, rfl, hI, hS⟩ := wrE_good hE hGd.out.1 hGd.out.2
  obtain ⟨L, hF⟩ := spF_of hI hS
  obtain ⟨q1, q2, q3⟩ := whole_facts hGd.out.2 hF hGd.out.1 hm0'.out
  have hlen := spX_len hGd.out.1 hI hSm.out
  rw [← S_size] at hlen
  have HF : Hid (SpF n D C T M B H L) := hF
  clear hE hb3 HW c2 n0 hI hS hF
  have hX0 : Hid ((S (outB H B 0 n)).size ≤ 67108864) := hlen
  obtain ⟨X, hX⟩ : ∃ X, S (outB H B 0 n) = X := ⟨_, rfl⟩
  rw [hX] at q1 q2 q3 hlen hX0 ⊢
  have HHd : Hid (∀ W, Calls Try.prog 16 #[.string X] W fun r w' => r = .returned (headV X) ∧ Below W.heap.size W w') := fun W => berHead_any X W (by omega)
  rw [q1] at HHd
  obtain ⟨z, hz⟩ : ∃ z, z = 2 + ll (L 0) := ⟨_, rfl⟩
  rw [← hz] at q2 q3 HHd
  obtain ⟨Ct, hCt⟩ : ∃ Ct, S (outB H B 1 (n - 1)) = Ct := ⟨_, rfl⟩
  have hCt' : Hid (S (outB H B 1 (n - 1)) = Ct) := hCt
  rw [hCt] at q3
  obtain ⟨l0, hl0⟩ : ∃ l0, L 0 = l0 := ⟨_, rfl⟩
  rw [hl0] at q2 HHd
  have wz : Hid (wrap64 ((z : Int) + (l0 : Int)) = (X.size : Int)) := wr_two z l0 X.size q2.symm (by omega)
  have z2 : ¬ (z : Int) < 2 := by omega
  have z3 : z ≤ X.size := by omega
  have z4 : (0 : Int) ≤ (z : Int) := Int.natCast_nonneg _
  have z5 : (z : Int) ≤ (X.size : Int) := by omega
  have wz' := wz.out
  generalize ((C 0).toNat : Int) = cl0 at HHd
  generalize ((T 0).toNat : Int) = tg0 at HHd
  clear hX hl0 hz q1 q2 hCt wz hlen
  go_wp2_with fail
  refine (HHd.out _).mono ?_
  rintro r w4 ⟨rfl, hb4⟩
  have HB4 : Hid (Below w.heap.size w w4) := HB3.out.trans (hb4.mono HB3.out.size)
  clear hb4 HHd HB3
  obtain ⟨N, hN1, hN2, hN3⟩ := itN_all hGd.out.2 n 1 (by omega) (Nat.le_refl _) hGd.out.1
  have hspl : Hid (spl Ct (Ct.size + 1) 0 = .ok ((List.range N).map (fun i => elK D C T M n B H (itN D n i 1)))) := by
    unfold Hid
    rw [← hCt'.out]
    have h0 : byB H B 1 1 = 0 := byB_same H B 1
    have := spl_all hGd.out.2 HF.out N 1 ((S (outB H B 1 (n - 1))).size + 1) (by
      rw [S_size]
      have hge := len_ge (H := H) (B := B) (n - 1) 1 (fun j j1 j2 => by rw [(HF.out j (by omega)).1, hdrL_len]; omega)
      omega) hN2 hN3
    rw [h0] at this
    exact this
  have hCs : Hid (Ct.size ≤ 4294967296) := by
    unfold Hid
    rw [← q3, ← size_l, drop_l, List.length_drop]
    have := hX0.out
    rw [size_l]
    omega
  have hCs2 : Hid (Ct.size ≤ 67108864) := by
    unfold Hid
    rw [← q3, ← size_l, drop_l, List.length_drop]
    have := hX0.out
    rw [size_l]
    omega
  have HN : Hid ((∀ i, i < N → 1 ≤ itN D n i 1 ∧ itN D n i 1 < n) ∧ itN D n N 1 = n ∧ N ≤ n) := ⟨hN2, hN3, by omega⟩
  have HSp : Hid (∀ W, Calls Try.prog 17 #[.string Ct] W fun r w' => splitQ Ct W.heap.size r w' ∧ Below W.heap.size W w') := fun W => berSplit_any Ct W hCs.out
  clear hN1 hN2 hN3
  go_wp2_with fail
  refine (HSp.out _).mono ?_
  rintro r w5 ⟨hQ, hb5⟩
  have HB5 : Hid (Below w.heap.size w w5) := (HB4.out.alloc HB4.out.size _).trans (hb5.mono (by have := HB4.out.size; simp; omega))
  clear hb5 HSp HB4
  rcases hQ with ⟨l, v, hk, rfl, hown⟩ | ⟨c', q', hk, rfl⟩
  rotate_left
  · rw [hspl.out] at hk; cases hk
  rw [hspl.out] at hk
  injection hk with hk
  obtain ⟨la, lc, rfl, hrow⟩ := ownE_any hown
  have hlN : l.length = N := by rw [← hk, List.length_map, List.length_range]
  have hli : Hid (∀ i (hi : i < l.length), l[i] = elK D C T M n B H (itN D n i 1)) := fun i hi => by subst hk; simp
  have HR : Hid (ERow w5 la l) := hrow
  rw [hlN]
  have hlN' : Hid (l.length = N) := hlN
  clear hk hown hrow hspl hlN
  go_wp2_with fail
  go_loopw [14, 15, 16] (fun av tv iv wr => ∃ (i : Nat) (vo : Value), av = vo ∧ tv = .int .i64 (itN D n i 1 : Int) ∧ iv = .int .i64 (i : Int) ∧ i ≤ N ∧ Hid (Own wr w5.heap.size vo (outB H B 1 (itN D n i 1 - 1)) ∧ Below w5.heap.size w5 wr)) (fun _ _ iv _ => N - (intOf iv).toNat)
  case atStart => exact ⟨0, _, rfl, rfl, rfl, Nat.zero_le _, own_nil _ _, Below.refl _ _⟩
  case round =>
    obtain ⟨i, vo, hvo, rfl, rfl, hi, HO⟩ := hrel
    have hvo' := hvo.symm
    clear hvo
    subst hvo'
    clear wz' z2 z3 z4 z5 q3
    have i0 : (0 : Int) ≤ (i : Int) := Int.natCast_nonneg _
    by_cases hlt : i < N
    · have i1 : (i : Int) < (N : Int) := Int.ofNat_lt.2 hlt
      obtain ⟨p1, p2⟩ := HN.out.1 i hlt
      have hD2 := part_facts hGd.out.2 i p1 p2
      have hsucc := itN_succ D n i 1
      obtain ⟨p, hp⟩ : ∃ p, itN D n i 1 = p := ⟨_, rfl⟩
      rw [hp] at p1 p2 hD2 hsucc HO ⊢
      obtain ⟨f1, f2, _⟩ := nxt_facts hGd.out.2 p p2
      obtain ⟨g1, g2, g3, g4, _⟩ := hGd.out.2 p p2
      have HLf : Hid (∀ W, Below w5.heap.size w5 W → Calls Try.prog 18 #[.slice (some ⟨b, off, none⟩) n c, .int .i64 (p : Int)] W fun r w' => ∃ v, r = .returned (.tuple #[v, .int .i64 (nxt D n p : Int)]) ∧ OwnN w' W.heap.size v (nodesL (nxt D n p - p) (fun j => D (p + j) - 1) (fun j => C (p + j)) (fun j => T (p + j)) (fun j => M (p + j)) (fun j => B (p + j))) ∧ Below W.heap.size W w') := fun W hW => lifted_any (some ⟨b, off, none⟩) n c D C T M B p W ((HH.out.1.below HB5.out).below hW) hGd.out.2 p2 hD2 hnn.out
      have HJ : Hid (∀ W, Calls Try.prog 19 #[elV ((C p).toNat : Int) (M p) ((T p).toNat : Int) (S (bodyK D n B H p))] W fun r w' => r = .returned (.tuple #[.string (S (outB H B p (nxt D n p - p))), .int .i64 0]) ∧ Below W.heap.size W w') := fun W => part_join hGd.out.2 HF.out p2 (by
        have h1 := bodyK_len hGd.out.2 HF.out p p2
        have h2 := by_next hGd.out.2 HF.out p p1 p2
        have h3 := byB_add H B 1 (nxt D n p) n (by omega) f2
        have h4 : byB H B 1 n = Ct.size := by rw [← hCt'.out, S_size]; rfl
        have h5 := hCs2.out
        omega) W
      have HWp : Hid (∀ (W : World) (pa : Option Addr) (pc : Nat), NdRow W pa (nodesL (nxt D n p - p) (fun j => D (p + j) - 1) (fun j => C (p + j)) (fun j => T (p + j)) (fun j => M (p + j)) (fun j => B (p + j))) → Calls Try.prog 13 #[.slice pa (nxt D n p - p) pc] W fun e w' => e = .returned (.tuple #[.string (S (outB H B p (nxt D n p - p))), .int .i64 0, .int .i64 0]) ∧ Below W.heap.size W w') := fun W pa pc hr => by
        refine (write_any pa _ pc _ _ _ _ _ W (row_isN0 hr) ?_).mono (fun e w' ⟨h1, h2⟩ => ⟨part_write hGd.out.2 HF.out p2 hD2 h1, h2⟩)
        have h1 := bsum_part B p (nxt D n p - p)
        have h2 := bsum_mono B n (p + (nxt D n p - p)) (by omega)
        have := hSm.out
        omega
      obtain ⟨m, hm⟩ : ∃ m, nxt D n p - p = m := ⟨_, rfl⟩
      obtain ⟨nx, hnx⟩ : ∃ nx, nxt D n p = nx := ⟨_, rfl⟩
      have hout : Hid (outB H B 1 (nx - 1) = outB H B 1 (p - 1) ++ (S (outB H B p m)).data.toList) := by
        unfold Hid
        rw [S_l, ← hm, hnx, show nx - 1 = (p - 1) + (nx - p) from by omega, outB_app, show 1 + (p - 1) = p from by omega]
      have hlo : Hid ((outB H B 1 (p - 1)).length + (S (outB H B p m)).size ≤ 1099511627776) := by
        unfold Hid
        have h3 := byB_add H B 1 nx n (by omega) (by omega)
        have h4 : byB H B 1 n = Ct.size := by rw [← hCt'.out, S_size]; rfl
        have h5 := hCs2.out
        have h6 : byB H B 1 nx = (outB H B 1 (nx - 1)).length := rfl
        rw [hout.out, List.length_append, size_l] at h6
        omega
      have hsN : Hid (itN D n (i + 1) 1 = nx) := by unfold Hid; rw [hsucc, hnx]
      obtain ⟨eb, hea, e0, e1, e2, e3⟩ := (HR.out.below HO.out.2) i (by rw [hlN'.out]; exact hlt)
      have hel := hli.out i (by rw [hlN'.out]; exact hlt)
      rw [hp] at hel
      rw [hel] at e0 e1 e2 e3
      subst hea
      have hm1 : 0 < m := by omega
      rw [hm, hnx] at HLf
      rw [hm] at HJ HWp
      have hCp : C p = ((C p).toNat : Int) := by omega
      have hTp : T p = ((T p).toNat : Int) := by omega
      have hbW : Hid (eb < wr.heap.size) := World.block_lt_of_cell? wr _ e0
      have m2 : ¬ (p : Int) ≥ (n : Int) := by omega
      have wi : Hid (wrap64 ((i : Int) + 1) = ((i + 1 : Nat) : Int)) := wr_upk i (by have := HN.out.2.2; have := hnn.out; omega)
      obtain ⟨cc, hcc⟩ : ∃ x, ((C p).toNat : Int) = x := ⟨_, rfl⟩
      obtain ⟨tt, htt⟩ : ∃ x, ((T p).toNat : Int) = x := ⟨_, rfl⟩
      obtain ⟨mk, hmk⟩ : ∃ x, M p = x := ⟨_, rfl⟩
      obtain ⟨bs, hbs⟩ : ∃ x, S (bodyK D n B H p) = x := ⟨_, rfl⟩
      obtain ⟨os, hos⟩ : ∃ x, S (outB H B p m) = x := ⟨_, rfl⟩
      have E0 : wr.cell? ⟨eb, i * 4, none⟩ = some (.int .i64 cc) := by rw [← hcc]; exact e0
      have E1 : wr.cell? ⟨eb, i * 4 + 1, none⟩ = some (.bool mk) := by rw [← hmk]; exact e1
      have E2 : wr.cell? ⟨eb, i * 4 + 2, none⟩ = some (.int .i64 tt) := by rw [← htt]; exact e2
      have E3 : wr.cell? ⟨eb, i * 4 + 3, none⟩ = some (.string bs) := by rw [← hbs]; exact e3
      rw [hcc, htt, hmk, hbs, hos] at HJ
      rw [hos] at HWp hout hlo
      have hCT : Hid (C p = cc ∧ T p = tt ∧ M p = mk ∧ 0 < m) := ⟨hCp.trans hcc, hTp.trans htt, hmk, hm1⟩
      have hi' : Hid (i < N) := hlt
      clear hp p1 hD2 hsucc f1 f2 g1 g2 g3 g4 hm hnx hel e0 e1 e2 e3 hm1 hCp hTp hcc htt hmk hbs hos hlt hi p2
      go_wp2_with fail
      refine (HLf.out _ HO.out.2).mono ?_
      rintro r w6 ⟨v6, rfl, hov, hb6⟩
      obtain ⟨pa, pc, rfl, prow⟩ := ownN_any hov
      rw [nodesL_len]
      have F0 := (hb6.cell hbW.out).trans E0
      have F1 := (hb6.cell hbW.out).trans E1
      have F2 := (hb6.cell hbW.out).trans E2
      have F3 := (hb6.cell hbW.out).trans E3
      have HO6 : Hid (Own w6 w5.heap.size vo (outB H B 1 (p - 1)) ∧ Below w5.heap.size w5 w6 ∧ eb < w6.heap.size) := ⟨ownL_below HO.out.1 hb6, HO.out.2.trans (hb6.mono HO.out.2.size), Nat.lt_of_lt_of_le hbW.out hb6.size⟩
      have HP6 : Hid (NdRow w6 pa (nodesL m (fun j => D (p + j) - 1) (fun j => C (p + j)) (fun j => T (p + j)) (fun j => M (p + j)) (fun j => B (p + j)))) := prow
      clear hov prow hb6 HLf HO E0 E1 E2 E3 hbW
      go_wp2_with fail
      refine (HJ.out _).mono ?_
      rintro r w7 ⟨rfl, hb7⟩
      have HO7 : Hid (Own w7 w5.heap.size vo (outB H B 1 (p - 1)) ∧ Below w5.heap.size w5 w7 ∧ eb < w7.heap.size) := ⟨ownL_below HO6.out.1 hb7, HO6.out.2.1.trans (hb7.mono HO6.out.2.1.size), Nat.lt_of_lt_of_le HO6.out.2.2 hb7.size⟩
      have HP7 : Hid (NdRow w7 pa (nodesL m (fun j => D (p + j) - 1) (fun j => C (p + j)) (fun j => T (p + j)) (fun j => M (p + j)) (fun j => B (p + j)))) := HP6.out.below hb7
      have G0 := (hb7.cell HO6.out.2.2).trans F0
      have G1 := (hb7.cell HO6.out.2.2).trans F1
      have G2 := (hb7.cell HO6.out.2.2).trans F2
      clear hb7 HJ HO6 HP6 F0 F1 F2 F3
      go_wp2_with fail
      refine (HWp.out w7 pa pc HP7.out).mono ?_
      rintro r w8 ⟨rfl, hb8⟩
      have HO8 : Hid (Own w8 w5.heap.size vo (outB H B 1 (p - 1)) ∧ Below w5.heap.size w5 w8) := ⟨ownL_below HO7.out.1 hb8, HO7.out.2.1.trans (hb8.mono HO7.out.2.1.size)⟩
      have K0 := (hb8.cell HO7.out.2.2).trans G0
      have K1 := (hb8.cell HO7.out.2.2).trans G1
      have K2 := (hb8.cell HO7.out.2.2).trans G2
      obtain ⟨pb, poff, hpa, d0, d1, d2, d3, d4⟩ := row_isN0 (HP7.out.below hb8) 0 hCT.out.2.2.2
      subst hpa
      simp only [Nat.zero_mul, Nat.add_zero, hCT.out.1, hCT.out.2.1, hCT.out.2.2.1] at d1 d2 d3
      have mz : (0 : Int) < (m : Int) := Int.ofNat_lt.2 hCT.out.2.2.2
      clear hb8 HWp HO7 HP7 G0 G1 G2 d0 d4
      go_upto_region 24 with fail
      go_quiet (fail)
      obtain ⟨W9, hW9⟩ : ∃ W9, w8.drewN nq = W9 := ⟨_, rfl⟩
      rw [hW9]
      have HO9 : Hid (Own W9 w5.heap.size vo (outB H B 1 (p - 1)) ∧ Below w5.heap.size w5 W9) := by
        rw [← hW9]
        have hb : Below w8.heap.size w8 (w8.drewN nq) := ⟨rfl, rfl, rfl, Nat.le_refl _, fun _ _ => rfl⟩
        exact ⟨ownL_below HO8.out.1 hb, HO8.out.2.trans (hb.mono HO8.out.2.size)⟩
      have hs9 : w5.heap.size ≤ W9.heap.size := HO9.out.2.size
      obtain ⟨ii, hii⟩ : ∃ ii, ii = i + 1 := ⟨_, rfl⟩
      rw [← hii] at wi hsN
      have wi' := wi.out
      have hi2 : Hid (i < N ∧ ii = i + 1 ∧ ii ≤ N) := ⟨hi'.out, hii, by rw [hii]; exact hi'.out⟩
      clear K0 K1 K2 d1 d2 d3 HO8 hW9 wi hii
      go_wp2_with (at_builtin; refine push_str _ rfl _ _ rfl w5.heap.size _ (outB H B 1 (p - 1)) os rfl rfl ?_ ?_ ?_ ?_; (exact HO9.out.1); (exact hs9); (exact hlo.out); intro v10 w10 hown10 hb10)
      rw [wi']
      exact ⟨⟨ii, v10, rfl, by rw [hsN.out], rfl, hi2.out.2.2, by rw [hsN.out, hout.out]; exact hown10, HO9.out.2.trans hb10⟩, meas_dn N i ii hi2.out.1 hi2.out.2.1⟩
    · obtain rfl : i = N := by omega
      have i1 : ¬ (i : Int) < (i : Int) := by omega
      have hend := HN.out.2.1
      rw [hend] at HO ⊢
      have hback := own_back_any (P := Try.prog) wr w5.heap.size 50 9 5 _ _ _ Try.underlying50 Try.underlying5 Try.underlying9 HO.out.1
      rw [hCt'.out] at hback
      have hB : Hid (Below w.heap.size w wr) := HB5.out.trans (HO.out.2.mono HB5.out.size)
      clear HO hend
      go_wp2_with fail
      go_ret
      exact ⟨rfl, hB.out⟩
end Go.Proofs.Ytgfonnjblbpogaa
