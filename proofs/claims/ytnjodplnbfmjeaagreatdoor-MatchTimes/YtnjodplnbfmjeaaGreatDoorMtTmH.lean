import Derived.Test.YtnjodplnbfmjeaaGreatDoorMtTmG
import Derived.BigQuiet
namespace Go.Proofs.YtnjodplnbfmjeaaGreatDoor
open Go.RowKit
set_option linter.unusedVariables false
set_option linter.unusedSimpArgs false
namespace Mt

def atD (l : List UInt8) : Bool := !l.isEmpty && allD (l.take 1)
set_option maxRecDepth 100000 in
set_option maxHeartbeats 1000000 in
theorem atDigit_any (b : Nat) (l : List UInt8) (br : Bool) (w : World) (hR : Tr w b l br) :
    Calls Tryz.prog 278 #[.pointer (some ⟨b, 0, none⟩)] w fun e w' => e = .returned (.bool (atD l)) ∧ Below w.heap.size w w' := by
  obtain ⟨c0, c1, f0, f1⟩ := hR.cells
  clear hR
  cases l with
  | nil =>
    rw [show S ([] : List UInt8) = (⟨#[]⟩ : ByteArray) from rfl] at c0
    go_enter Tryz.func278, Tryz.ntmps278
    go_wp2_with fail
    go_ret
    exact ⟨rfl, Below.refl _ _⟩
  | cons c m =>
    have hM : Hid (Calls Tryz.prog 234 #[.string (S [c]), .string dgS] w fun e w' => e = .returned (.bool (atD (c :: m))) ∧ Below w.heap.size w w') := madeOfD_any [c] w
    have hne : (S (c :: m)).toList.isEmpty = false := by rw [Lib.toList_data, S_l]; rfl
    have hq1 : (S (c :: m)).extract 0 1 = S [c] := S_eq _ _ (by rw [take_l, S_l]; rfl)
    have hle : (1 : Int) ≤ ((S (c :: m)).size : Int) := by rw [S_size]; simp; omega
    obtain ⟨T, hT⟩ : ∃ T, S (c :: m) = T := ⟨_, rfl⟩
    obtain ⟨Q, hQ⟩ : ∃ Q, S [c] = Q := ⟨_, rfl⟩
    rw [hT] at c0 hne hq1 hle
    rw [hQ] at hM hq1
    clear hT hQ
    generalize atD (c :: m) = out at *
    cases out <;> (
      go_enter Tryz.func278, Tryz.ntmps278
      go_wp2_with fail
      refine hM.out.mono ?_
      rintro e w1 ⟨rfl, hb1⟩
      have hb1' : Hid (Below w.heap.size w w1) := hb1
      clear hb1
      go_wp2_with fail
      go_ret
      exact ⟨rfl, hb1'.out⟩)
abbrev ptS : ByteArray := ⟨#[46, 44]⟩
theorem trimP_any (s : ByteArray) (w : World) : Calls Tryz.prog 236 #[.string s, .string ptS] w fun e w' => e = .returned (.string (S (Lib.trimLeftS s.data.toList [46, 44]))) ∧ Below w.heap.size w w' :=
  Any.strings_TrimLeft_laid Tryz.lays161 (by kernel_rfl) s ptS w (by decide) (ascii_of_all rfl)
theorem madeOfP_any (l : List UInt8) (w : World) : Calls Tryz.prog 234 #[.string (S l), .string ptS] w fun e w' => e = .returned (.bool (Lib.trimLeftS l [46, 44]).isEmpty) ∧ Below w.heap.size w w' := by
  have hT := trimP_any (S l) w
  rw [S_l] at hT
  generalize Lib.trimLeftS l [46, 44] = m at *
  have hT' : Hid (Calls Tryz.prog 236 #[.string (S l), .string ptS] w fun e w' => e = .returned (.string (S m)) ∧ Below w.heap.size w w') := hT
  clear hT
  cases m with
  | nil =>
    go_enter Tryz.func234, Tryz.ntmps234
    go_wp2_with (go_at_call 236; refine hT'.out.mono ?_; rintro e w1 ⟨rfl, hb1⟩; rw [show S [] = (⟨#[]⟩ : ByteArray) from rfl])
    go_ret
    exact ⟨rfl, hb1⟩
  | cons c m =>
    have hne : (S (c :: m)).toList.isEmpty = false := by rw [Lib.toList_data, S_l]; rfl
    obtain ⟨T, hT⟩ : ∃ T, S (c :: m) = T := ⟨_, rfl⟩
    rw [hT] at hT' hne
    clear hT
    go_enter Tryz.func234, Tryz.ntmps234
    go_wp2_with (go_at_call 236; refine hT'.out.mono ?_; rintro e w1 ⟨rfl, hb1⟩)
    go_ret
    exact ⟨rfl, hb1⟩
/-- A point or a comma, and the digits behind it. -/
def isPt (c : UInt8) : Bool := (Lib.trimLeftS [c] [46, 44]).isEmpty
def fracR (l : List UInt8) (br : Bool) : List UInt8 × List UInt8 × Bool :=
  match l with
  | [] => ([], [], br)
  | c :: m => if isPt c = true then (m.take (m.length - (Lib.trimLeftS m dgs).length), Lib.trimLeftS m dgs, br || !atD m) else ([], c :: m, br)
theorem trimS_le (l cs : List UInt8) : (Lib.trimLeftS l cs).length ≤ l.length := by
  unfold Lib.trimLeftS
  exact List.Sublist.length_le (List.dropWhile_sublist _)
set_option maxRecDepth 100000 in
set_option maxHeartbeats 1000000 in
theorem fraction_any (b : Nat) (l : List UInt8) (br : Bool) (w : World) (hR : Tr w b l br) (hl : l.length ≤ 4194304) :
    Calls Tryz.prog 279 #[.pointer (some ⟨b, 0, none⟩)] w fun e w' => e = .returned (.string (S (fracR l br).1)) ∧ Tr w' b (fracR l br).2.1 (fracR l br).2.2 ∧ Tb b w w' := by
  obtain ⟨c0, c1, f0, f1⟩ := hR.cells
  have hR' : Hid (Tr w b l br) := hR
  clear hR
  cases l with
  | nil =>
    rw [show S ([] : List UInt8) = (⟨#[]⟩ : ByteArray) from rfl] at c0
    go_enter Tryz.func279, Tryz.ntmps279
    go_wp2_with fail
    go_ret
    exact ⟨rfl, hR'.out, Tb.refl _ _⟩
  | cons c m =>
    obtain ⟨out, hout'⟩ : ∃ out, fracR (c :: m) br = out := ⟨_, rfl⟩
    rw [hout']
    have hM : Hid (Calls Tryz.prog 234 #[.string (S [c]), .string ptS] w fun e w' => e = .returned (.bool (isPt c)) ∧ Below w.heap.size w w') := madeOfP_any [c] w
    have hne : (S (c :: m)).toList.isEmpty = false := by rw [Lib.toList_data, S_l]; rfl
    have hq1 : (S (c :: m)).extract 0 1 = S [c] := S_eq _ _ (by rw [take_l, S_l]; rfl)
    have hq2 : (S (c :: m)).extract 1 (S (c :: m)).size = S m := S_eq _ _ (by rw [drop_l, S_l]; rfl)
    have hle : (1 : Int) ≤ ((S (c :: m)).size : Int) := by rw [S_size]; simp; omega
    have hcl : Hid (∀ W, Below w.heap.size w W → W.cell? ⟨b, 0, none⟩ = some (.string (S (c :: m))) ∧ W.cell? ⟨b, 1, none⟩ = some (.bool br) ∧ W.frozen? ⟨b, 0, none⟩ = false ∧ W.frozen? ⟨b, 1, none⟩ = false) := fun W hb => (hR'.out.below hb).cells
    by_cases hp : isPt c = true
    · have ho : Hid (out = (m.take (m.length - (Lib.trimLeftS m dgs).length), Lib.trimLeftS m dgs, br || !atD m)) := by unfold Hid; rw [← hout', fracR, if_pos hp]
      rw [hp] at hM
      have hA : ∀ W, Tr W b m br → Hid (Calls Tryz.prog 278 #[.pointer (some ⟨b, 0, none⟩)] W fun e w' => e = .returned (.bool (atD m)) ∧ Below W.heap.size W w') := fun W h => atDigit_any b m br W h
      have hTL : ∀ W, Hid (Calls Tryz.prog 236 #[.string (S m), .string dgS] W fun e w' => e = .returned (.string (S (Lib.trimLeftS m dgs))) ∧ Below W.heap.size W w') := fun W => by
        have := trimD_any (S m) W
        rw [S_l] at this
        exact this
      have hlm : m.length ≤ 4194304 := by simp at hl; omega
      have htl := trimS_le m dgs
      obtain ⟨bh, hbh⟩ : ∃ bh, Lib.trimLeftS m dgs = bh := ⟨_, rfl⟩
      rw [hbh] at htl
      simp only [hbh] at hTL ho
      have hs1 : (S m).size = m.length := S_size m
      have hs2 : (S bh).size = bh.length := S_size bh
      have hw : wrap64 (((S m).size : Int) - ((S bh).size : Int)) = ((m.length - bh.length : Nat) : Int) := by rw [hs1, hs2]; unfold wrap64; omega
      have hq3 : (S m).extract 0 (m.length - bh.length) = S (m.take (m.length - bh.length)) := S_eq _ _ (by rw [take_l, S_l])
      have hle3 : ((m.length - bh.length : Nat) : Int) ≤ ((S m).size : Int) := by rw [hs1]; omega
      have hge3 : (0 : Int) ≤ ((m.length - bh.length : Nat) : Int) := Int.natCast_nonneg _
      obtain ⟨k, hk⟩ : ∃ k, m.length - bh.length = k := ⟨_, rfl⟩
      rw [hk] at hw hq3 hle3 hge3 ho
      have ho' : Hid (out = (m.take k, bh, br || !atD m)) := ho
      obtain ⟨M, hM'⟩ : ∃ M, S m = M := ⟨_, rfl⟩
      obtain ⟨Bh, hBh⟩ : ∃ Bh, S bh = Bh := ⟨_, rfl⟩
      obtain ⟨K3, hK3⟩ : ∃ K3, S (m.take k) = K3 := ⟨_, rfl⟩
      have hst1 : ∀ W, Below w.heap.size w W → Hid (Tr (W.setCell ⟨b, 0, none⟩ (.string M)) b m br ∧ Tb b w (W.setCell ⟨b, 0, none⟩ (.string M))) := fun W hb => by rw [← hM']; exact ⟨(hR'.out.below hb).rest _, (Tb.of_below hb (Nat.le_of_lt hR'.out.lt)).set _ _⟩
      have hst2 : ∀ (W : World) (br' : Bool), Tr W b m br' → Tb b w W → Hid (Tr (W.setCell ⟨b, 1, none⟩ (.bool true)) b m true ∧ Tb b w (W.setCell ⟨b, 1, none⟩ (.bool true))) := fun W br' h1 h2 => ⟨h1.brk, h2.set _ _⟩
      have hst3 : ∀ (W : World) (br' : Bool), Tr W b m br' → Tb b w W → Hid (Tr (W.setCell ⟨b, 0, none⟩ (.string Bh)) b bh br' ∧ Tb b w (W.setCell ⟨b, 0, none⟩ (.string Bh))) := fun W br' h1 h2 => by rw [← hBh]; exact ⟨h1.rest _, h2.set _ _⟩
      have hcm : Hid (∀ (W : World) (br' : Bool), Tr W b m br' → W.cell? ⟨b, 0, none⟩ = some (.string M) ∧ W.cell? ⟨b, 1, none⟩ = some (.bool br') ∧ W.frozen? ⟨b, 0, none⟩ = false ∧ W.frozen? ⟨b, 1, none⟩ = false) := fun W br' h => by rw [← hM']; exact h.cells
      obtain ⟨T, hT⟩ : ∃ T, S (c :: m) = T := ⟨_, rfl⟩
      obtain ⟨Q, hQ⟩ : ∃ Q, S [c] = Q := ⟨_, rfl⟩
      rw [hT] at c0 hne hq1 hq2 hle hcl
      rw [hQ] at hM hq1
      rw [hM'] at hq2 hw hq3 hle3
      rw [hBh] at hw
      rw [hK3] at hq3
      simp only [hM', hBh] at hTL
      obtain ⟨ad, had⟩ : ∃ ad, atD m = ad := ⟨_, rfl⟩
      rw [had] at ho'
      simp only [had] at hA
      clear hT hQ hM' hBh ho had hs1 hs2 hk hbh htl hlm hl hp hout'
      cases ad with
      | true =>
        go_enter Tryz.func279, Tryz.ntmps279
        go_wp2_with fail
        refine hM.out.mono ?_
        rintro e w1 ⟨rfl, hb1⟩
        have hb1' : Hid (Below w.heap.size w w1) := hb1
        clear c0 c1 f0 f1 hM hb1
        obtain ⟨c0, c1, f0, f1⟩ := hcl.out w1 hb1'.out
        have h1 := hst1 w1 hb1'.out
        clear hst1
        go_upto_region 4 with fail
        obtain ⟨W2, hW2⟩ : ∃ X, w1.setCell ⟨b, 0, none⟩ (.string M) = X := ⟨_, rfl⟩
        rw [hW2] at h1 ⊢
        clear hW2 c0 c1 f0 f1
        obtain ⟨c0, c1, f0, f1⟩ := hcm.out W2 _ h1.out.1
        have hA2 := hA W2 h1.out.1
        clear hA
        go_wp2_with fail
        refine hA2.out.mono ?_
        rintro e w3 ⟨rfl, hb3⟩
        have h3 : Hid (Tr w3 b m br ∧ Tb b w w3) := ⟨h1.out.1.below hb3, h1.out.2.trans (Tb.of_below hb3 (Nat.le_of_lt h1.out.1.lt))⟩
        clear hb3 hA2 c0 c1 f0 f1
        obtain ⟨c0, c1, f0, f1⟩ := hcm.out w3 _ h3.out.1
        go_wp2_with fail
        refine (hTL _).out.mono ?_
        rintro e w5 ⟨rfl, hb5⟩
        have h5 : Hid (Tr w5 b m br ∧ Tb b w w5) := ⟨h3.out.1.below hb5, h3.out.2.trans (Tb.of_below hb5 (Nat.le_of_lt h3.out.1.lt))⟩
        clear hb5 c0 c1 f0 f1 hTL
        obtain ⟨c0, c1, f0, f1⟩ := hcm.out w5 _ h5.out.1
        go_upto_region 7 with fail
        have h6 : ∀ nq, Hid (Tr ((w5.drewN nq).setCell ⟨b, 0, none⟩ (.string Bh)) b bh br ∧ Tb b w ((w5.drewN nq).setCell ⟨b, 0, none⟩ (.string Bh))) := fun nq => hst3 (w5.drewN nq) br (h5.out.1.below ⟨rfl, rfl, rfl, Nat.le_refl _, fun _ _ => rfl⟩) (h5.out.2.trans (Tb.of_below ⟨rfl, rfl, rfl, Nat.le_refl _, fun _ _ => rfl⟩ (Nat.le_of_lt h5.out.1.lt)))
        have ho2 : Hid (out = (m.take k, bh, br)) := by unfold Hid; rw [ho'.out]; simp
        go_quiet (fail)
        go_wp2_with fail
        go_ret
        rw [ho2.out, hK3]
        exact ⟨rfl, (h6 nq).out.1, (h6 nq).out.2⟩
      | false =>
        go_enter Tryz.func279, Tryz.ntmps279
        go_wp2_with fail
        refine hM.out.mono ?_
        rintro e w1 ⟨rfl, hb1⟩
        have hb1' : Hid (Below w.heap.size w w1) := hb1
        clear c0 c1 f0 f1 hM hb1
        obtain ⟨c0, c1, f0, f1⟩ := hcl.out w1 hb1'.out
        have h1 := hst1 w1 hb1'.out
        clear hst1
        go_upto_region 4 with fail
        obtain ⟨W2, hW2⟩ : ∃ X, w1.setCell ⟨b, 0, none⟩ (.string M) = X := ⟨_, rfl⟩
        rw [hW2] at h1 ⊢
        clear hW2 c0 c1 f0 f1
        obtain ⟨c0, c1, f0, f1⟩ := hcm.out W2 _ h1.out.1
        have hA2 := hA W2 h1.out.1
        clear hA
        go_wp2_with fail
        refine hA2.out.mono ?_
        rintro e w3 ⟨rfl, hb3⟩
        have h3 : Hid (Tr w3 b m br ∧ Tb b w w3) := ⟨h1.out.1.below hb3, h1.out.2.trans (Tb.of_below hb3 (Nat.le_of_lt h1.out.1.lt))⟩
        clear hb3 hA2 c0 c1 f0 f1
        obtain ⟨c0, c1, f0, f1⟩ := hcm.out w3 _ h3.out.1
        have h4 := hst2 w3 _ h3.out.1 h3.out.2
        go_upto_region 6 with fail
        obtain ⟨W4, hW4⟩ : ∃ X, w3.setCell ⟨b, 1, none⟩ (.bool true) = X := ⟨_, rfl⟩
        rw [hW4] at h4 ⊢
        clear hW4 c0 c1 f0 f1
        obtain ⟨c0, c1, f0, f1⟩ := hcm.out W4 _ h4.out.1
        go_wp2_with fail
        refine (hTL _).out.mono ?_
        rintro e w5 ⟨rfl, hb5⟩
        have h5 : Hid (Tr w5 b m true ∧ Tb b w w5) := ⟨h4.out.1.below hb5, h4.out.2.trans (Tb.of_below hb5 (Nat.le_of_lt h4.out.1.lt))⟩
        clear hb5 c0 c1 f0 f1 hTL
        obtain ⟨c0, c1, f0, f1⟩ := hcm.out w5 _ h5.out.1
        go_upto_region 7 with fail
        have h6 : ∀ nq, Hid (Tr ((w5.drewN nq).setCell ⟨b, 0, none⟩ (.string Bh)) b bh true ∧ Tb b w ((w5.drewN nq).setCell ⟨b, 0, none⟩ (.string Bh))) := fun nq => hst3 (w5.drewN nq) true (h5.out.1.below ⟨rfl, rfl, rfl, Nat.le_refl _, fun _ _ => rfl⟩) (h5.out.2.trans (Tb.of_below ⟨rfl, rfl, rfl, Nat.le_refl _, fun _ _ => rfl⟩ (Nat.le_of_lt h5.out.1.lt)))
        have ho2 : Hid (out = (m.take k, bh, true)) := by unfold Hid; rw [ho'.out]; simp
        go_quiet (fail)
        go_wp2_with fail
        go_ret
        rw [ho2.out, hK3]
        exact ⟨rfl, (h6 nq).out.1, (h6 nq).out.2⟩
    · have ho : Hid (out = ([], c :: m, br)) := by unfold Hid; rw [← hout', fracR, if_neg hp]
      have hp' : isPt c = false := by simpa using hp
      rw [hp'] at hM
      obtain ⟨T, hT⟩ : ∃ T, S (c :: m) = T := ⟨_, rfl⟩
      obtain ⟨Q, hQ⟩ : ∃ Q, S [c] = Q := ⟨_, rfl⟩
      rw [hT] at c0 hne hq1 hle
      rw [hQ] at hM hq1
      have hend : ∀ W, Below w.heap.size w W → Hid (Tr W b (c :: m) br ∧ Tb b w W) := fun W hb => ⟨hR'.out.below hb, Tb.of_below hb (Nat.le_of_lt hR'.out.lt)⟩
      clear hT hQ hp hp' hq2 hout' hcl hl
      go_enter Tryz.func279, Tryz.ntmps279
      go_wp2_with fail
      refine hM.out.mono ?_
      rintro e w1 ⟨rfl, hb1⟩
      have h1 := hend w1 hb1
      clear hend hb1 hM c0 c1 f0 f1
      go_wp2_with fail
      go_ret
      rw [ho.out]
      exact ⟨rfl, h1.out.1, h1.out.2⟩
/-- The minutes of a zone, ahead of universal time. -/
def zmR (l : List UInt8) (br : Bool) : Int × List UInt8 × Bool :=
  if (numR 2 0 23 l br).2.1 = [] then ((numR 2 0 23 l br).1 * 60, (numR 2 0 23 l br).2)
  else ((numR 2 0 23 l br).1 * 60 + (numR 2 0 59 (numR 2 0 23 l br).2.1 (numR 2 0 23 l br).2.2).1, (numR 2 0 59 (numR 2 0 23 l br).2.1 (numR 2 0 23 l br).2.2).2)
theorem numR_bnd (lo hi : Int) (l : List UInt8) (br : Bool) (h0 : 0 ≤ lo) (h1 : lo ≤ 99) : 0 ≤ (numR 2 lo hi l br).1 ∧ (numR 2 lo hi l br).1 ≤ 99 := by
  unfold numR
  by_cases q1 : l.length < 2
  · rw [if_pos q1]; exact ⟨h0, h1⟩
  · rw [if_neg q1]
    by_cases q2 : allD (l.take 2) = true
    · rw [if_pos q2]
      have := digV_lt q2
      have h2 : (l.take 2).length = 2 := by rw [List.length_take]; omega
      rw [h2] at this
      show 0 ≤ (digV (l.take 2) : Int) ∧ (digV (l.take 2) : Int) ≤ 99
      omega
    · rw [if_neg q2]; exact ⟨h0, h1⟩
theorem numR_len (n : Nat) (lo hi : Int) (l : List UInt8) (br : Bool) : (numR n lo hi l br).2.1.length ≤ l.length := by
  unfold numR
  by_cases q1 : l.length < n
  · rw [if_pos q1]; exact Nat.le_refl _
  · rw [if_neg q1]
    by_cases q2 : allD (l.take n) = true
    · rw [if_pos q2]; show (l.drop n).length ≤ _; rw [List.length_drop]; omega
    · rw [if_neg q2]; exact Nat.le_refl _
set_option maxRecDepth 100000 in
set_option maxHeartbeats 1000000 in
theorem zoneMinutes_any (b : Nat) (l : List UInt8) (br : Bool) (w : World) (hR : Tr w b l br) (hl : l.length ≤ 4194304) :
    Calls Tryz.prog 286 #[.pointer (some ⟨b, 0, none⟩)] w fun e w' => e = .returned (.int .i64 (zmR l br).1) ∧ Tr w' b (zmR l br).2.1 (zmR l br).2.2 ∧ Tb b w w' := by
  have hN : Hid (Calls Tryz.prog 276 #[.pointer (some ⟨b, 0, none⟩), .int .i64 2, .int .i64 0, .int .i64 23] w fun e w' => e = .returned (.int .i64 (numR 2 0 23 l br).1) ∧ Tr w' b (numR 2 0 23 l br).2.1 (numR 2 0 23 l br).2.2 ∧ Tb b w w') := number_any b l br 2 0 23 w hR (by decide) (by decide) hl
  have hb1 := numR_bnd 0 23 l br (by decide) (by decide)
  have hl1 := numR_len 2 0 23 l br
  obtain ⟨out, hout'⟩ : ∃ out, zmR l br = out := ⟨_, rfl⟩
  rw [hout']
  unfold zmR at hout'
  obtain ⟨⟨v, l1, br1⟩, hv⟩ : ∃ x, numR 2 0 23 l br = x := ⟨_, rfl⟩
  rw [hv] at hN hb1 hout' hl1
  have hb1 : 0 ≤ v ∧ v ≤ 99 := hb1
  have hl1 : l1.length ≤ l.length := hl1
  obtain ⟨v0, v1⟩ := hb1
  have w1 : wrap64 (v * 60) = v * 60 := by unfold wrap64; omega
  have hout : Hid ((if l1 = [] then (v * 60, (l1, br1)) else (v * 60 + (numR 2 0 59 l1 br1).1, (numR 2 0 59 l1 br1).2)) = out) := hout'
  clear hR hv hout'
  cases l1 with
  | nil =>
    have ho : Hid (out = (v * 60, [], br1)) := by unfold Hid; rw [← hout.out, if_pos rfl]
    clear hout hl1 v0 v1
    go_enter Tryz.func286, Tryz.ntmps286
    go_wp2_with fail
    refine hN.out.mono ?_
    rintro e w2 ⟨rfl, hR2, hT2⟩
    have h2 : Hid (Tr w2 b [] br1 ∧ Tb b w w2) := ⟨hR2, hT2⟩
    obtain ⟨c0, c1, f0, f1⟩ := hR2.cells
    rw [show S ([] : List UInt8) = (⟨#[]⟩ : ByteArray) from rfl] at c0
    clear hN hR2 hT2
    go_wp2_with fail
    go_ret
    rw [ho.out]
    exact ⟨rfl, h2.out.1, h2.out.2⟩
  | cons c m =>
    have hb2 := numR_bnd 0 59 (c :: m) br1 (by decide) (by decide)
    have hN2 : ∀ W, Tr W b (c :: m) br1 → Hid (Calls Tryz.prog 276 #[.pointer (some ⟨b, 0, none⟩), .int .i64 2, .int .i64 0, .int .i64 59] W fun e w' => e = .returned (.int .i64 (numR 2 0 59 (c :: m) br1).1) ∧ Tr w' b (numR 2 0 59 (c :: m) br1).2.1 (numR 2 0 59 (c :: m) br1).2.2 ∧ Tb b W w') := fun W h => number_any b (c :: m) br1 2 0 59 W h (by decide) (by decide) (Nat.le_trans hl1 hl)
    obtain ⟨⟨u, l2, br2⟩, hu⟩ : ∃ x, numR 2 0 59 (c :: m) br1 = x := ⟨_, rfl⟩
    rw [hu] at hout
    simp only [hu] at hb2 hN2
    obtain ⟨u0, u1⟩ := hb2
    have w2 : wrap64 (v * 60 + u) = v * 60 + u := by unfold wrap64; omega
    have ho : Hid (out = (v * 60 + u, l2, br2)) := by unfold Hid; rw [← hout.out, if_neg (by simp)]
    have hne : (S (c :: m)).toList.isEmpty = false := by rw [Lib.toList_data, S_l]; rfl
    have hcl : Hid (∀ W, Tr W b (c :: m) br1 → W.cell? ⟨b, 0, none⟩ = some (.string (S (c :: m)))) := fun W h => h.cells.1
    obtain ⟨T, hT⟩ : ∃ T, S (c :: m) = T := ⟨_, rfl⟩
    rw [hT] at hne hcl
    clear hout hu v0 v1 u0 u1 hT hl1
    go_enter Tryz.func286, Tryz.ntmps286
    go_wp2_with fail
    refine hN.out.mono ?_
    rintro e w3 ⟨rfl, hR3, hT3⟩
    have h3 : Hid (Tb b w w3) := hT3
    have c0 := hcl.out w3 hR3
    have hN3 := hN2 w3 hR3
    clear hN hR3 hT3 hN2 hcl
    go_wp2_with fail
    refine hN3.out.mono ?_
    rintro e w4 ⟨rfl, hR4, hT4⟩
    have h4 : Hid (Tr w4 b l2 br2 ∧ Tb b w w4) := ⟨hR4, h3.out.trans hT4⟩
    clear hN3 hR4 hT4 c0
    go_wp2_with fail
    go_ret
    rw [ho.out]
    exact ⟨by show Ending.returned (.int .i64 (wrap64 (v * 60 + u))) = _; rw [w2], h4.out.1, h4.out.2⟩
end Mt
end Go.Proofs.YtnjodplnbfmjeaaGreatDoor
