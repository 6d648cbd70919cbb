import Derived.Test.YtfpphhbpoaobfaaGreatDoorRcS
import Derived.BigQuiet
import Derived.Deep.RegionHeld3
import Derived.Deep.RegionHeldLaw
namespace Go.Proofs.YtfpphhbpoaobfaaGreatDoor
namespace Rd
open Go.RowKit
open LdMath
open Lr (PR RC pf chg okD dnB ChgTab GOwn GRow pV pV_len Kd PX RX rV rV_len append_gen RRow PRow said rrow_at prow_at drewN_below)
set_option linter.unusedVariables false
set_option maxRecDepth 100000

theorem up_lat (n x : Nat) (h : 1 ≤ n) : ((up n x : Nat) : Int) = lat (x : Int) (n : Int) := by
  unfold up lat
  by_cases hx : n ≤ x
  · rw [if_pos hx, if_pos ⟨by omega, by omega⟩]; rfl
  · rw [if_neg hx, if_neg (fun h => by omega)]
theorem smL_up {b t : List UInt8} {n : Nat} (h1 : 1 ≤ n) (h : rdT t = gR (up n) (rdT b)) : SmL b t (n : Int) := by
  have hl : ldR t = (ldR b).map (fun r => (up n r.1, r.2)) := by
    unfold ldR
    rw [h]
    show (if (rdT b).2.1 = 0 then _ else _) = _
    split <;> rfl
  unfold SmL
  rw [h]
  refine ⟨rfl, fun _ => up_lat n _ h1, by rw [hl, List.length_map], fun i hi hi' => ?_⟩
  have e : (ldR t)[i] = (up n (ldR b)[i].1, (ldR b)[i].2) := by
    have : (ldR t)[i]? = some (up n (ldR b)[i].1, (ldR b)[i].2) := by rw [hl, List.getElem?_map, List.getElem?_eq_getElem hi]; rfl
    rw [List.getElem?_eq_getElem hi'] at this
    exact Option.some.inj this
  rw [e]
  exact ⟨rfl, up_lat n _ h1⟩
/-- A fault of the lines, or no line. -/
theorem cmt_none (s co : ByteArray) (hs : s.size ≤ 1048576) (d : Int) (m : Nat) (x y : Int) (hU : ∀ W, Calls Tryz.prog 8 #[.string s] W fun e w' => ∃ a c, e = .returned (.tuple #[.slice a m c, .int .i64 x, .int .i64 y]) ∧ Below W.heap.size W w') (hx : (x != 0) = true ∨ ((x != 0) = false ∧ m = 0)) (w : World) (hWt : WTab w) (hCt : ChgTab w) :
    Calls Tryz.prog 4 #[.string s, .int .i64 d, .string co] w fun e w' => e = .returned (.bool true) ∧ Below w.heap.size w w' := by
  have hF : Hid (Calls Tryz.prog 7 #[] w fun e w' => e = .returned (.bool true) ∧ Below w.heap.size w w') := fixed_any w hWt hCt
  have hU' : Hid (∀ W, Calls Tryz.prog 8 #[.string s] W fun e w' => ∃ a c, e = .returned (.tuple #[.slice a m c, .int .i64 x, .int .i64 y]) ∧ Below W.heap.size W w') := hU
  clear hU hWt hCt hs
  rcases hx with hx | ⟨hx, hm⟩
  all_goals
    try subst hm
    go_enter Tryz.func4, Tryz.ntmps4
    go_wp2_with (first
      | (go_at_call 7; refine hF.out.mono ?_; rintro e w1 ⟨rfl, hb1⟩; have H1 : Hid (Below w.heap.size w w1) := hb1; clear hb1 hF)
      | (go_at_call 8; refine (hU'.out _).mono ?_; rintro e w2 ⟨a, c, rfl, hb2⟩; have H2 : Hid (Below w.heap.size w w2) := H1.out.trans (hb2.mono H1.out.size); clear hb2)
      | (go_at_call 9; refine (num_any _ _).mono ?_; rintro e w9 ⟨rfl, rfl⟩))
    go_ret
    exact ⟨rfl, H2.out⟩
theorem cmt_text (s co : ByteArray) (at0 n : Nat) (ha : sta (n - 1) s.data.toList = at0) (hl : at0 ≤ s.size) (C : ByteArray) (hC : C.data.toList = cln co.data.toList) :
    (s.extract 0 at0 ++ ({ data := #[35] } : ByteArray) ++ C ++ ({ data := #[10] } : ByteArray) ++ s.extract at0 s.size).data.toList = cmt s.data.toList (cln co.data.toList) n := by
  have h0 : (s.extract 0 at0).data.toList = s.data.toList.take at0 := by rw [ByteArray.data_extract]; simp
  rw [app_l, app_l, app_l, app_l, drop_l, h0, hC]
  unfold cmt
  rw [ha]
  simp
set_option maxHeartbeats 8000000 in
theorem cmt_main (s co : ByteArray) (hs : s.size ≤ 1048576) (hco : co.size ≤ 1048576) (d : Int) (L : List (Nat × List UInt8)) (m k n : Nat) (hf : ferr [] (phys s.data.toList) = none) (hL : joinS (phys s.data.toList) = L) (hm : L.length = m) (hk : k < m) (hn : L[k].1 = n) (hd : (d.tmod (m : Int) = (k : Int)) ∨ (d.tmod (m : Int) < 0 ∧ d.tmod (m : Int) + (m : Int) = (k : Int))) (w : World) (hWt : WTab w) (hCt : ChgTab w) :
    Calls Tryz.prog 4 #[.string s, .int .i64 d, .string co] w fun e w' => e = .returned (.bool true) ∧ Below w.heap.size w w' := by
  have hF : Hid (Calls Tryz.prog 7 #[] w fun e w' => e = .returned (.bool true) ∧ Below w.heap.size w w') := fixed_any w hWt hCt
  have hQ := comment_math s.data.toList (cln co.data.toList) k n hf (by rw [hL, hm]; exact hk) (by simp only [hL]; exact hn) (cln_no _).1 (cln_no _).2
  obtain ⟨⟨n1, n2⟩, q1, q2, q3, q4⟩ := hQ
  rw [size_l] at n2
  obtain ⟨at0, hat⟩ : ∃ a, sta (n - 1) s.data.toList = a := ⟨_, rfl⟩
  have hal : at0 ≤ s.size := by rw [← hat, ← size_l]; exact sta_le _ _
  obtain ⟨C, hC⟩ : ∃ C, S (cln co.data.toList) = C := ⟨_, rfl⟩
  have hCl : C.data.toList = cln co.data.toList := by rw [← hC, S_l]
  have hCs : C.size ≤ 1048576 := by rw [← hC, S_size]; have := cln_len co.data.toList; rw [size_l] at this; omega
  have hTl := cmt_text s co at0 n hat hal C hCl
  have hSt : Hid (∀ W, Calls Tryz.prog 13 #[.string s, .int .i64 (n : Int)] W fun e w' => e = .returned (.int .i64 (at0 : Int)) ∧ W = w') := fun W => by
    have := start_any s hs n n1 (by omega) W
    rw [hat] at this
    exact this
  have hCn : Hid (∀ W, Calls Tryz.prog 14 #[.string co] W fun e w' => e = .returned (.string C) ∧ Below W.heap.size W w') := fun W => by
    have := clean_any co hco W
    rw [hC] at this
    exact this
  have o1 : outL (phys s.data.toList) = L := by unfold outL; rw [hf]; exact hL
  have o2 : outE (phys s.data.toList) = (0, 0) := by unfold outE; rw [hf]
  have hU : Hid (∀ W, Calls Tryz.prog 8 #[.string s] W fun e w' => ∃ g c, e = .returned (.tuple #[.slice (some ⟨g, 0, none⟩) m c, .int .i64 0, .int .i64 0]) ∧ w'.cell? ⟨g, k * 2, none⟩ = some (.int .i64 (n : Int)) ∧ Below W.heap.size W w') := fun W => by
    refine (linesR_any s (by omega) _ rfl m (by rw [o1]; exact hm) W).mono ?_
    rintro e w' ⟨a, c, rfl, h3, hb⟩
    rw [o1] at h3
    rw [o2]
    obtain ⟨g, rfl, p0, p1⟩ := h3 k (by rw [hm]; exact hk)
    rw [hn] at p0
    exact ⟨g, c, rfl, p0, hb⟩
  obtain ⟨T1, hT1⟩ : ∃ T, s.extract 0 at0 = T := ⟨_, rfl⟩
  obtain ⟨T2, hT2⟩ : ∃ T, T1 ++ ({ data := #[35] } : ByteArray) = T := ⟨_, rfl⟩
  obtain ⟨T3, hT3⟩ : ∃ T, T2 ++ C = T := ⟨_, rfl⟩
  obtain ⟨T4, hT4⟩ : ∃ T, T3 ++ ({ data := #[10] } : ByteArray) = T := ⟨_, rfl⟩
  obtain ⟨T5, hT5⟩ : ∃ T, s.extract at0 s.size = T := ⟨_, rfl⟩
  obtain ⟨t, ht⟩ : ∃ T, T4 ++ T5 = T := ⟨_, rfl⟩
  obtain ⟨H, hH⟩ : ∃ T, ({ data := #[35] } : ByteArray) ++ C = T := ⟨_, rfl⟩
  rw [hT1, hT2, hT3, hT4, hT5, ht] at hTl
  have z1 : T1.size ≤ 1048576 := by rw [← hT1, ByteArray.size_extract]; omega
  have z2 : T2.size = T1.size + 1 := by rw [← hT2, ByteArray.size_append]; rfl
  have z3 : T3.size = T2.size + C.size := by rw [← hT3, ByteArray.size_append]
  have z4 : T4.size = T3.size + 1 := by rw [← hT4, ByteArray.size_append]; rfl
  have z5 : T5.size ≤ 1048576 := by rw [← hT5, ByteArray.size_extract]; omega
  have z6 : t.size = T4.size + T5.size := by rw [← ht, ByteArray.size_append]
  have hts : t.size ≤ 10485760 := by omega
  have hSL : Hid (∀ W, Below w.heap.size w W → Calls Tryz.prog 15 #[.string s, .string t, .int .i64 (n : Int)] W fun e w' => e = .returned (.bool true) ∧ Below W.heap.size W w') := fun W hb => sameLoad_any s t (by omega) hts (n : Int) W (hWt.below hb) (hCt.below hb) (smL_up n1 (by rw [hTl]; exact q4))
  have hV : Hid (∀ W, Calls Tryz.prog 8 #[.string t] W fun e w' => ∃ g c, e = .returned (.tuple #[.slice (some ⟨g, 0, none⟩) (m + 1) c, .int .i64 0, .int .i64 0]) ∧ (w'.cell? ⟨g, k * 2, none⟩ = some (.int .i64 (n : Int)) ∧ w'.cell? ⟨g, k * 2 + 1, none⟩ = some (.string H)) ∧ Below W.heap.size W w') := fun W => by
    have o3 : outL (phys t.data.toList) = joinS (phys t.data.toList) := by unfold outL; rw [hTl, q1]
    have o4 : outE (phys t.data.toList) = (0, 0) := by unfold outE; rw [hTl, q1]
    have hlt : (joinS (phys t.data.toList)).length = m + 1 := by rw [hTl, q2, hL, hm]
    refine (linesR_any t hts _ rfl (m + 1) (by rw [o3]; exact hlt) W).mono ?_
    rintro e w' ⟨a, c, rfl, h3, hb⟩
    rw [o3] at h3
    rw [o4]
    have hkl : k < (joinS (phys t.data.toList)).length := by rw [hlt]; omega
    obtain ⟨g, rfl, p0, p1⟩ := h3 k hkl
    have e1 : (joinS (phys t.data.toList))[k] = (n, 35 :: cln co.data.toList) := by
      have : (joinS (phys t.data.toList))[k]? = some (n, 35 :: cln co.data.toList) := by rw [hTl]; exact q3
      rw [List.getElem?_eq_getElem hkl] at this
      exact Option.some.inj this
    rw [e1] at p0 p1
    have e2 : S (35 :: cln co.data.toList) = H := by rw [← hH]; exact (S_eq _ _ (by rw [app_l, hCl]; rfl)).symm
    rw [e2] at p1
    exact ⟨g, c, rfl, ⟨p0, p1⟩, hb⟩
  have hmb : m ≤ 1048577 := by
    have := outL_len s (by omega)
    have h1 := (joinS_sizes (phys s.data.toList)).1
    have h2 := phys_len s.data.toList
    rw [hL, hm] at h1
    rw [size_l] at h2
    omega
  have mb : (m : Int) ≤ 1048577 := by omega
  have m0 : (0 : Int) < (m : Int) := by omega
  have m00 : ((m : Int) == 0) = false := by rw [beq_eq_false_iff_ne]; omega
  have k0 : (0 : Int) ≤ (k : Int) := Int.natCast_nonneg _
  have km : (k : Int) < (m : Int) := Int.ofNat_lt.2 hk
  have km2 : (k : Int) < (m : Int) + 1 := by omega
  have a0 : (0 : Int) ≤ (at0 : Int) := Int.natCast_nonneg _
  have a1 : (at0 : Int) ≤ (s.size : Int) := Int.ofNat_le.2 hal
  have nb : (n : Int) ≤ 1048577 := by omega
  have y1 : ¬ 9223372036854775807 < T1.size + 1 := by omega
  have y2 : ¬ 9223372036854775807 < T2.size + C.size := by omega
  have y3 : ¬ 9223372036854775807 < T3.size + 1 := by omega
  have y4 : ¬ 9223372036854775807 < T4.size + T5.size := by omega
  have y5 : ¬ 9223372036854775807 < 1 + C.size := by omega
  clear hL hm hn hf q1 q2 q3 q4 n1 n2 hat hal hC hCl hTl o1 o2 hts hmb hWt hCt hk hs hco z1 z2 z3 z4 z5 z6 hCs
  have hcase : (d.tmod (m : Int) = (k : Int) ∧ True) ∨ (∃ q : Int, d.tmod (m : Int) = q ∧ q < 0 ∧ q + (m : Int) = (k : Int)) := by
    rcases hd with hd | ⟨hd, hd2⟩
    · exact .inl ⟨hd, trivial⟩
    · exact .inr ⟨_, rfl, hd, hd2⟩
  clear hd
  rcases hcase with ⟨hd, hq1⟩ | ⟨q, hd, hq1, hq2⟩
  all_goals
    go_enter Tryz.func4, Tryz.ntmps4
    go_wp2_with (first
      | (go_at_call 7; refine hF.out.mono ?_; rintro e w1 ⟨rfl, hb1⟩; have H1 : Hid (Below w.heap.size w w1) := hb1; clear hb1 hF)
      | (go_at_call 8; refine (hU.out w1).mono ?_; rintro e w2 ⟨g2, c2, rfl, p0, hb2⟩; have H2 : Hid (Below w.heap.size w w2) := H1.out.trans (hb2.mono H1.out.size); clear hb2)
      | (go_at_call 13; refine (hSt.out _).mono ?_; rintro e w3 ⟨rfl, rfl⟩)
      | (go_at_call 9; refine (num_any _ _).mono ?_; rintro e w9 ⟨rfl, rfl⟩))
    have HD : Hid (Below w.heap.size w w9.drew) := H2.out.trans ((drewN_below w9 w9.heap.size 1).mono H2.out.size)
    clear hd hq1 p0
    try clear hq2
    go_region_held3 (fun w' => True) (exact trivial)
      (first | (go_at_call 14; refine (hCn.out w9.drew).mono ?_; rintro e w4 ⟨rfl, hb4⟩; have H4 : Hid (Below w.heap.size w w4) := HD.out.trans (hb4.mono HD.out.size); clear hb4))
    clear HD H2 H1
    go_wp2_with (go_at_call 8; refine (hV.out w4).mono ?_; rintro e w5 ⟨g5, c5, rfl, ⟨p0, p1⟩, hb5⟩; have H5 : Hid (Below w.heap.size w w5) := H4.out.trans (hb5.mono H4.out.size); clear hb5)
    have hcl : Hid (∀ W, Below w5.heap.size w5 W → W.cell? ⟨g5, k * 2, none⟩ = some (.int .i64 (n : Int)) ∧ W.cell? ⟨g5, k * 2 + 1, none⟩ = some (.string H)) := fun W hW => by
      refine ⟨?_, ?_⟩
      · rw [hW.cell (World.block_lt_of_cell? _ _ p0)]; exact p0
      · rw [hW.cell (World.block_lt_of_cell? _ _ p1)]; exact p1
    have HD5 : Below w5.heap.size w5 w5.drew := drewN_below w5 w5.heap.size 1
    have cd := hcl.out _ HD5
    have hw1 : IntKind.i64.wrap ((m : Int) + 1) = (m : Int) + 1 := by rw [IntKind.wrap_i64]; omega
    clear p0 p1
    go_region_held3 (fun w' => w'.cell? ⟨g5, k * 2, none⟩ = some (.int .i64 (n : Int)) ∧ w'.cell? ⟨g5, k * 2 + 1, none⟩ = some (.string H))
      (first | exact hcl.out w6 B6 | exact cd)
      (first
        | (go_at_call 14; refine (hCn.out _).mono ?_; rintro e w6 ⟨rfl, hb6⟩; have B6 : Below w5.heap.size w5 w6 := HD5.trans (hb6.mono HD5.size); clear hb6)
        | (go_at_call 9; refine (num_any _ _).mono ?_; rintro e w9 ⟨rfl, rfl⟩))
    have H6 : Hid (Below w.heap.size w w6) := H5.out.trans (B6.mono H5.out.size)
    clear cd hw1 HD5 B6 hcl
    go_wp2_with (go_at_call 15; refine (hSL.out w6 H6.out).mono ?_; rintro e w7 ⟨rfl, hb7⟩)
    go_ret
    exact ⟨rfl, H6.out.trans (hb7.mono H6.out.size)⟩
theorem ldifComment_walk (s : ByteArray) (d : Int) (co : ByteArray) (hs : s.size ≤ 1048576) (hco : co.size ≤ 1048576) (w : World) (hWt : WTab w) (hCt : ChgTab w) :
    Calls Tryz.prog 4 #[.string s, .int .i64 d, .string co] w fun e w' => e = .returned (.bool true) ∧ Below w.heap.size w w' := by
  obtain ⟨m, hm⟩ : ∃ m, (outL (phys s.data.toList)).length = m := ⟨_, rfl⟩
  have hU := fun W => linesR_any s (by omega) _ rfl m hm W
  have hU' : ∀ W, Calls Tryz.prog 8 #[.string s] W fun e w' => ∃ a c, e = .returned (.tuple #[.slice a m c, .int .i64 ((outE (phys s.data.toList)).1 : Int), .int .i64 ((outE (phys s.data.toList)).2 : Int)]) ∧ Below W.heap.size W w' := fun W => by
    refine (hU W).mono ?_
    rintro e w' ⟨a, c, rfl, _, hb⟩
    exact ⟨a, c, rfl, hb⟩
  cases hf : ferr [] (phys s.data.toList) with
  | some p =>
    refine cmt_none s co hs d m _ _ hU' (.inl ?_) w hWt hCt
    have o2 : outE (phys s.data.toList) = p := by unfold outE; rw [hf]
    rw [o2, bne_iff_ne]
    have := ferr_val _ _ _ hf
    omega
  | none =>
    have o1 : outL (phys s.data.toList) = joinS (phys s.data.toList) := by unfold outL; rw [hf]
    by_cases hm0 : m = 0
    · refine cmt_none s co hs d m _ _ hU' (.inr ⟨?_, hm0⟩) w hWt hCt
      have o2 : outE (phys s.data.toList) = (0, 0) := by unfold outE; rw [hf]
      rw [o2]
      rfl
    · have mp : (0 : Int) < (m : Int) := by omega
      have u1 := Int.tmod_lt_of_pos d mp
      have u2 := Int.lt_tmod_of_pos d mp
      obtain ⟨k, hk, hd⟩ : ∃ k : Nat, k < m ∧ (d.tmod (m : Int) = (k : Int) ∨ (d.tmod (m : Int) < 0 ∧ d.tmod (m : Int) + (m : Int) = (k : Int))) := by
        by_cases hq : 0 ≤ d.tmod (m : Int)
        · exact ⟨(d.tmod (m : Int)).toNat, by omega, .inl (by omega)⟩
        · exact ⟨(d.tmod (m : Int) + (m : Int)).toNat, by omega, .inr ⟨by omega, by omega⟩⟩
      exact cmt_main s co hs hco d _ m k _ hf rfl (by rw [← o1]; exact hm) hk rfl hd w hWt hCt
end Rd
end Go.Proofs.YtfpphhbpoaobfaaGreatDoor
