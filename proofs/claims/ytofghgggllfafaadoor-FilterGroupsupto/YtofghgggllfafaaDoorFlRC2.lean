import Derived.Test.YtofghgggllfafaaDoorFlRC1
namespace Go.Proofs.YtofghgggllfafaaDoor
open Go.RowKit
open TextMath
set_option linter.unusedVariables false

theorem chkB_at {xs : List Nod} {i : Nat} (h : i < xs.length) (hc : chkF xs = chkL (pre xs i) (xs.drop i) i) (E : Int) (he : er (pre xs i) xs[i] (xs.drop (i + 1)) = E) (hE : ¬ E = 0) : (chkF xs) = (E, i) := by
  rw [hc, chkL_step h, if_neg (by rw [he]; exact hE), he]
def chkU (xs : List Nod) : Value := .tuple #[.int .i64 (chkF xs).1, .int .i64 ((chkF xs).2 : Nat)]
theorem chkU_of {xs : List Nod} {E : Int} {i : Nat} (h : chkF xs = (E, i)) : Ending.returned (.tuple #[.int .i64 E, .int .i64 (i : Int)]) = .returned (chkU xs) := by
  unfold chkU
  rw [h]
set_option maxRecDepth 100000 in
set_option maxHeartbeats 8000000 in
theorem rfCheck_any (xs : List Nod) (a : Option Addr) (c : Nat) (w : World) (hF : FRow w a xs) (hn : xs.length ≤ 1048577) (hl : ∀ x ∈ xs, x.l.length ≤ 1048576 ∧ x.desc.length ≤ 1048576 ∧ x.rule.length ≤ 1048576) (hT : RowTab w) :
    Calls Tryd.prog 12 #[.slice a xs.length c] w fun e w' => e = .returned (chkU xs) ∧ Below w.heap.size w w' := by
  by_cases h0 : xs = []
  · subst h0
    go_enter Tryd.func12, Tryd.ntmps12
    go_wp2_with fail
    go_ret2
    exact ⟨rfl, Below.refl _ _⟩
  · have hst : Hid (chkF xs = chkL (pre xs 0) (xs.drop 0) 0) := chkF_start h0
    have hlen : ((xs.length : Int) == 0) = false := by simp; exact h0
    have hlen3 : ¬ xs.length = 0 := fun h => h0 (List.eq_nil_of_length_eq_zero h)
    have hlen2 : ¬ (xs.length : Int) = 0 := by omega
    have H : Hid (FRow w a xs ∧ (∀ x ∈ xs, x.l.length ≤ 1048576 ∧ x.desc.length ≤ 1048576 ∧ x.rule.length ≤ 1048576) ∧ xs.length ≤ 1048577 ∧ RowTab w) := ⟨hF, hl, hn, hT⟩
    clear hF hl hT hn
    go_enter Tryd.func12, Tryd.ntmps12
    go_wp2_with fail
    clear hlen hlen2 hlen3 h0
    go_loopw [4] (fun iv wr => ∃ i : Nat, i ≤ xs.length ∧ iv = .int .i64 (i : Int) ∧ Hid (chkF xs = chkL (pre xs i) (xs.drop i) i) ∧ Hid (okc (pre xs i) ∧ Below w.heap.size w wr)) (fun iv _ => xs.length - (intOf iv).toNat)
    case atStart => exact ⟨0, Nat.zero_le _, rfl, hst, by rw [pre_zero]; exact okc_nil, Below.refl _ _⟩
    case round =>
      obtain ⟨i, hi, rfl, hc, hI⟩ := hrel
      clear hst
      by_cases hlt : i < xs.length
      · have i0 : (0 : Int) ≤ (i : Int) := Int.natCast_nonneg _
        have i1 : (i : Int) < (xs.length : Int) := Int.ofNat_lt.2 hlt
        have hok := hI.out.1
        have hb0 := hI.out.2
        obtain ⟨b, off, rfl, _⟩ := H.out.1.at i hlt
        have HC : ∀ W, Below w.heap.size w W → W.cell? ⟨b, off + i * 9, none⟩ = some (.int .i64 xs[i].dep) ∧ W.cell? ⟨b, off + i * 9 + 1, none⟩ = some (.int .i64 xs[i].op) ∧ W.cell? ⟨b, off + i * 9 + 2, none⟩ = some (.string (S xs[i].desc)) ∧ W.cell? ⟨b, off + i * 9 + 3, none⟩ = some (.string (S xs[i].val)) ∧ W.cell? ⟨b, off + i * 9 + 4, none⟩ = some (.string (S xs[i].ini)) ∧ W.cell? ⟨b, off + i * 9 + 5, none⟩ = some (.slice xs[i].a xs[i].l.length xs[i].n) ∧ W.cell? ⟨b, off + i * 9 + 6, none⟩ = some (.string (S xs[i].fin)) ∧ W.cell? ⟨b, off + i * 9 + 7, none⟩ = some (.string (S xs[i].rule)) ∧ W.cell? ⟨b, off + i * 9 + 8, none⟩ = some (.bool xs[i].dn) := fun W hW => by
          obtain ⟨_, _, q, c0, c1, c2, c3, c4, c5, c6, c7, c8⟩ := (H.out.1.below hW).at i hlt
          injection q with q; injection q with q1 q2; subst q1 q2
          exact ⟨c0, c1, c2, c3, c4, c5, c6, c7, c8⟩
        obtain ⟨hll, hld, hlr⟩ := H.out.2.1 _ (List.getElem_mem hlt)
        have KF : Hid (Calls Tryd.prog 21 #[.slice (some ⟨b, off, none⟩) xs.length c, .int .i64 (i : Int)] wr fun e w' => e = .returned (.bool (fol (pre xs i) xs[i])) ∧ Below wr.heap.size wr w') := rFollows_any xs i hlt _ c wr (H.out.1.below hb0) H.out.2.2.1 hok
        have KS : Hid (∀ W, Below w.heap.size w W → Calls Tryd.prog 23 #[.slice (some ⟨b, off, none⟩) xs.length c, .int .i64 (i : Int)] W fun e w' => e = .returned (.bool (sec false (pre xs i) xs[i].dep)) ∧ Below W.heap.size W w') := fun W hW => second_any xs i hlt _ c W (H.out.1.below hW) H.out.2.2.1
        have KD : Hid (∀ W, Below w.heap.size w W → Calls Tryd.prog 22 #[.agg #[.int .i64 xs[i].dep, .int .i64 xs[i].op, .string (S xs[i].desc), .string (S xs[i].val), .string (S xs[i].ini), .slice xs[i].a xs[i].l.length xs[i].n, .string (S xs[i].fin), .string (S xs[i].rule), .bool xs[i].dn]] W fun e w' => e = .returned (.bool (sndN xs[i])) ∧ Below W.heap.size W w') := fun W hW => fields_any _ _ _ _ _ _ _ _ _ _ _ W hll (Nat.le_trans (S_sz hld) (by omega)) (Nat.le_trans (S_sz hlr) (by omega)) ((H.out.1.below hW) i hlt).2 (H.out.2.2.2.below hW)
        have hnx : Hid (∀ d, nx (xs.drop (i + 1)) d = true ↔ ∃ h : i + 1 < xs.length, xs[i + 1].dep = d) := fun d => by
          by_cases h : i + 1 < xs.length
          · rw [List.drop_eq_getElem_cons h]
            simp [nx, h]
          · rw [List.drop_eq_nil_of_le (by omega)]
            simp [nx, h]
        have hend : Hid (∀ E, er (pre xs i) xs[i] (xs.drop (i + 1)) = E → ¬ E = 0 → Ending.returned (.tuple #[.int .i64 E, .int .i64 (i : Int)]) = .returned (chkU xs)) := fun E h1 h2 => chkU_of (chkB_at hlt hc.out E h1 h2)
        have hon : Hid (er (pre xs i) xs[i] (xs.drop (i + 1)) = 0 → chkF xs = chkL (pre xs (i + 1)) (xs.drop (i + 1)) (i + 1) ∧ okc (pre xs (i + 1))) := fun h => ⟨by rw [hc.out, chkL_step hlt, if_pos h], by rw [pre_succ hlt]; exact okc_step hok h⟩
        have hfd : Hid (fol (pre xs i) xs[i] = true → 1 ≤ xs[i].dep) := fun h => (fol_dep hok h).1
        have her : Hid (er (pre xs i) xs[i] (xs.drop (i + 1)) = if fol (pre xs i) xs[i] = false then 120 else if 64 < xs[i].dep then 121 else if sndN xs[i] = false ∨ sec false (pre xs i) xs[i].dep = true then 120 else if xs[i].op = 2 ∧ nx (xs.drop (i + 1)) (xs[i].dep + 1) = false then 120 else 0) := rfl
        have hlt' : Hid (i < xs.length ∧ xs.length ≤ 1048577) := ⟨hlt, H.out.2.2.1⟩
        have hNx : Hid (∀ (h : i + 1 < xs.length) W, Below w.heap.size w W → W.cell? ⟨b, off + (i + 1) * 9, none⟩ = some (.int .i64 xs[i + 1].dep)) := fun h W hW => by
          obtain ⟨_, _, q, c0, _⟩ := (H.out.1.below hW).at (i + 1) h
          injection q with q; injection q with q1 q2; subst q1 q2
          exact c0
        generalize fol (pre xs i) xs[i] = F at *
        generalize sec false (pre xs i) xs[i].dep = Q at *
        generalize sndN xs[i] = N at *
        generalize er (pre xs i) xs[i] (xs.drop (i + 1)) = E at *
        generalize xs[i].dep = d at *
        generalize xs[i].op = o at *
        generalize S xs[i].desc = s1 at *
        generalize S xs[i].val = s2 at *
        generalize S xs[i].ini = s3 at *
        generalize S xs[i].fin = s4 at *
        generalize S xs[i].rule = s5 at *
        generalize xs[i].dn = t5 at *
        generalize xs[i].a = a5 at *
        generalize xs[i].l.length = m5 at *
        generalize xs[i].n = n5 at *
        have hb0' : Hid (Below w.heap.size w wr) := hb0
        have HC' : Hid (∀ W, Below w.heap.size w W → W.cell? ⟨b, off + i * 9, none⟩ = some (.int .i64 d) ∧ W.cell? ⟨b, off + i * 9 + 1, none⟩ = some (.int .i64 o) ∧ W.cell? ⟨b, off + i * 9 + 2, none⟩ = some (.string s1) ∧ W.cell? ⟨b, off + i * 9 + 3, none⟩ = some (.string s2) ∧ W.cell? ⟨b, off + i * 9 + 4, none⟩ = some (.string s3) ∧ W.cell? ⟨b, off + i * 9 + 5, none⟩ = some (.slice a5 m5 n5) ∧ W.cell? ⟨b, off + i * 9 + 6, none⟩ = some (.string s4) ∧ W.cell? ⟨b, off + i * 9 + 7, none⟩ = some (.string s5) ∧ W.cell? ⟨b, off + i * 9 + 8, none⟩ = some (.bool t5)) := HC
        clear HC hb0 hok hI hlt hll hld hlr hc
        cases F with
        | false =>
          have hE := her.out
          rw [if_pos rfl] at hE
          have hz := hend.out 120 hE (by decide)
          have hz' : Hid (Ending.returned (.tuple #[.int .i64 120, .int .i64 (i : Int)]) = .returned (chkU xs)) := hz
          clear hz hE her hend hon
          go_wp2_with (go_at_call 21; refine KF.out.mono ?_; rintro e w1 ⟨rfl, hb1⟩)
          go_ret2
          exact ⟨hz'.out, hb0'.out.trans (hb1.mono hb0'.out.size)⟩
        | true =>
          have her1 : Hid (E = if 64 < d then 121 else if N = false ∨ Q = true then 120 else if o = 2 ∧ nx (xs.drop (i + 1)) (d + 1) = false then 120 else 0) := her.out
          clear her
          go_upto_region 8 with (go_at_call 21; refine KF.out.mono ?_; rintro e w1 ⟨rfl, hb1⟩)
          have hB1 : Hid (Below w.heap.size w w1) := hb0'.out.trans (hb1.mono hb0'.out.size)
          clear hb1 KF
          obtain ⟨c0, c1, c2, c3, c4, c5, c6, c7, c8⟩ := HC'.out w1 hB1.out
          by_cases h64 : 64 < d
          · have hE := her1.out
            rw [if_pos h64] at hE
            have hz' : Hid (Ending.returned (.tuple #[.int .i64 121, .int .i64 (i : Int)]) = .returned (chkU xs)) := hend.out 121 hE (by decide)
            have h64' : d > 64 := h64
            clear hE her1 hend hon
            go_wp2_with fail
            go_ret2
            exact ⟨hz'.out, hB1.out⟩
          · have her2 : Hid (E = if N = false ∨ Q = true then 120 else if o = 2 ∧ nx (xs.drop (i + 1)) (d + 1) = false then 120 else 0) := by
              have := her1.out
              rw [if_neg h64] at this
              exact this
            have hd : Hid (1 ≤ d ∧ d ≤ 64) := ⟨hfd.out trivial, by omega⟩
            clear her1
            go_upto_region 10 with fail
            cases N with
            | false =>
              have hE := her2.out
              rw [if_pos (Or.inl rfl)] at hE
              have hz' : Hid (Ending.returned (.tuple #[.int .i64 120, .int .i64 (i : Int)]) = .returned (chkU xs)) := hend.out 120 hE (by decide)
              clear hE her2 hend hon
              go_wp2_with (go_at_call 22; refine (KD.out _ hB1.out).mono ?_; rintro e w2 ⟨rfl, hb2⟩)
              go_ret2
              exact ⟨hz'.out, hB1.out.trans (hb2.mono hB1.out.size)⟩
            | true =>
              cases Q with
              | true =>
                have hE := her2.out
                rw [if_pos (Or.inr rfl)] at hE
                have hz' : Hid (Ending.returned (.tuple #[.int .i64 120, .int .i64 (i : Int)]) = .returned (chkU xs)) := hend.out 120 hE (by decide)
                clear hE her2 hend hon
                go_wp2_with (first | (go_at_call 22; refine (KD.out _ hB1.out).mono ?_; rintro e w2 ⟨rfl, hb2⟩; have hB2 : Below w.heap.size w w2 := hB1.out.trans (hb2.mono hB1.out.size)) | (go_at_call 23; refine (KS.out _ hB2).mono ?_; rintro e w3 ⟨rfl, hb3⟩))
                go_ret2
                exact ⟨hz'.out, hB2.trans (hb3.mono hB2.size)⟩
              | false =>
                have her3 : Hid (E = if o = 2 ∧ nx (xs.drop (i + 1)) (d + 1) = false then 120 else 0) := by
                  have := her2.out
                  rw [if_neg (by simp)] at this
                  exact this
                clear her2
                go_upto_region 12 with (first | (go_at_call 22; refine (KD.out _ hB1.out).mono ?_; rintro e w2 ⟨rfl, hb2⟩; have hB2 : Below w.heap.size w w2 := hB1.out.trans (hb2.mono hB1.out.size)) | (go_at_call 23; refine (KS.out _ hB2).mono ?_; rintro e w3 ⟨rfl, hb3⟩))
                have hB3 : Hid (Below w.heap.size w w3) := hB2.trans (hb3.mono hB2.size)
                clear hb3 hb2 hB2 hB1 KD KS c0 c1 c2 c3 c4 c5 c6 c7 c8
                obtain ⟨c0, c1⟩ : w3.cell? ⟨b, off + i * 9, none⟩ = some (.int .i64 d) ∧ w3.cell? ⟨b, off + i * 9 + 1, none⟩ = some (.int .i64 o) := ⟨(HC'.out w3 hB3.out).1, (HC'.out w3 hB3.out).2.1⟩
                have Hw : Hid (wrap64 (d + 1) = d + 1 ∧ IntKind.i64.wrap (d + 1) = d + 1) := wrI (by have := hd.out; omega) (by have := hd.out; omega)
                by_cases ho : o = 2
                · subst ho
                  obtain ⟨j, hj⟩ : ∃ j, j = i + 1 := ⟨_, rfl⟩
                  have hu : Hid (wrap64 ((i : Int) + 1) = (j : Int) ∧ IntKind.i64.wrap ((i : Int) + 1) = (j : Int)) := wrU hj (by have := hlt'.out; omega)
                  have j0 : (0 : Int) ≤ (j : Int) := Int.natCast_nonneg _
                  have hj' : Hid (j = i + 1) := hj
                  by_cases hJ : j < xs.length
                  · have hJ1 : i + 1 < xs.length := by omega
                    have gN := hNx.out hJ1 w3 hB3.out
                    have hnx1 := hnx.out (d + 1)
                    obtain ⟨dN, hdN⟩ : ∃ dN, xs[i + 1].dep = dN := ⟨_, rfl⟩
                    rw [hdN] at gN
                    rw [← hj] at gN
                    have j1 : (j : Int) < (xs.length : Int) := Int.ofNat_lt.2 hJ
                    have j2 : decide ((j : Int) ≥ (xs.length : Int)) = false := decide_eq_false (by omega)
                    have j3 : decide ((xs.length : Int) ≤ (j : Int)) = false := decide_eq_false (by omega)
                    by_cases hd1 : dN = d + 1
                    · have hE : E = 0 := by rw [her3.out, if_neg (by rw [hnx1.2 ⟨hJ1, by rw [hdN]; exact hd1⟩]; simp)]
                      have hon' := hon.out hE
                      have hon2 : Hid (chkF xs = chkL (pre xs (i + 1)) (xs.drop (i + 1)) (i + 1) ∧ okc (pre xs (i + 1))) := hon'
                      have w1 : (dN != d + 1) = false := by simpa using hd1
                      clear hj hE hon' hon hend her3 hnx1 hdN hJ1 hnx hNx hfd
                      obtain ⟨q1, q2⟩ := Hw.out
                      obtain ⟨q3, q4⟩ := hu.out
                      go_quiet (fail)
                      clear q1 q2 q3 q4
                      have hn := hlt'.out.2
                      go_wp2_with fail
                      go_roundw
                      case rel => exact ⟨i + 1, hlt'.out.1, by simp, hon2.out.1, hon2.out.2, hB3.out.trans (drewN_below _ _ _)⟩
                      case measure => have := hlt'.out; simp [intOf]; omega
                    · have hnf : nx (xs.drop (i + 1)) (d + 1) = false := by
                        cases e : nx (xs.drop (i + 1)) (d + 1) with
                        | false => rfl
                        | true =>
                          obtain ⟨_, q⟩ := hnx1.1 e
                          exact absurd (by rw [← hdN]; exact q) hd1
                      have hE : E = 120 := by rw [her3.out, if_pos ⟨rfl, hnf⟩]
                      have hz' : Hid (Ending.returned (.tuple #[.int .i64 120, .int .i64 (i : Int)]) = .returned (chkU xs)) := hend.out 120 hE (by decide)
                      have w1 : (dN != d + 1) = true := by simpa using hd1
                      clear hj hnf hE hon hend her3 hnx1 hdN hJ1 hnx hNx hfd
                      obtain ⟨q1, q2⟩ := Hw.out
                      obtain ⟨q3, q4⟩ := hu.out
                      go_quiet (fail)
                      clear q1 q2 q3 q4
                      go_wp2_with fail
                      go_ret2
                      exact ⟨hz'.out, hB3.out.trans (drewN_below _ _ _)⟩
                  · have hJ1 : ¬ i + 1 < xs.length := by omega
                    have hnf : nx (xs.drop (i + 1)) (d + 1) = false := by
                      cases e : nx (xs.drop (i + 1)) (d + 1) with
                      | false => rfl
                      | true =>
                        obtain ⟨q, _⟩ := (hnx.out (d + 1)).1 e
                        exact absurd q hJ1
                    have hE : E = 120 := by rw [her3.out, if_pos ⟨rfl, hnf⟩]
                    have hz' : Hid (Ending.returned (.tuple #[.int .i64 120, .int .i64 (i : Int)]) = .returned (chkU xs)) := hend.out 120 hE (by decide)
                    have j2 : decide ((j : Int) ≥ (xs.length : Int)) = true := decide_eq_true (by omega)
                    have j3 : decide ((xs.length : Int) ≤ (j : Int)) = true := decide_eq_true (by omega)
                    clear hj hnf hE hon hend her3 hJ1 hnx hNx hfd
                    obtain ⟨q3, q4⟩ := hu.out
                    go_quiet (fail)
                    clear q3 q4
                    go_wp2_with fail
                    go_ret2
                    exact ⟨hz'.out, hB3.out.trans (drewN_below _ _ _)⟩
                · have hE : E = 0 := by rw [her3.out, if_neg (fun q => ho q.1)]
                  have hon2 : Hid (chkF xs = chkL (pre xs (i + 1)) (xs.drop (i + 1)) (i + 1) ∧ okc (pre xs (i + 1))) := hon.out hE
                  have w1 : (o == 2) = false := by simpa using ho
                  clear hE hon hend her3 hnx hNx hfd
                  go_quiet (fail)
                  have hn := hlt'.out.2
                  go_wp2_with fail
                  go_roundw
                  case rel => exact ⟨i + 1, hlt'.out.1, by simp, hon2.out.1, hon2.out.2, hB3.out.trans (drewN_below _ _ _)⟩
                  case measure => have := hlt'.out; simp [intOf]; omega
      · have k1 : ¬ (i : Int) < (xs.length : Int) := by omega
        have hz : Hid (Ending.returned (.tuple #[.int .i64 0, .int .i64 0]) = .returned (chkU xs)) := by
          have q : chkF xs = (0, 0) := by
            rw [hc.out, List.drop_eq_nil_of_le (by omega)]
            rfl
          exact chkU_of q
        have hb' : Hid (Below w.heap.size w wr) := hI.out.2
        clear hI
        go_wp2_with fail
        go_ret2
        exact ⟨hz.out, hb'.out⟩
end Go.Proofs.YtofghgggllfafaaDoor
