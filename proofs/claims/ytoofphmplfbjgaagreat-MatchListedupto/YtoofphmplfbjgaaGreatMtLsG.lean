import Derived.Test.YtoofphmplfbjgaaGreatMtLsF
namespace Go.Proofs.YtoofphmplfbjgaaGreat
open Go.RowKit
set_option linter.unusedVariables false
set_option linter.unusedSimpArgs false
namespace Ml

def pk (a b c d : ByteArray) : Nat → ByteArray
  | 0 => a
  | 1 => b
  | 2 => c
  | _ => d
/-- The row of the four texts. -/
def Four (W : World) (g : Nat) (a b c d : ByteArray) : Prop := ∀ j, j < 4 → W.cell? ⟨g, j, none⟩ = some (.string (pk a b c d j))
theorem Four.below {W W' : World} {g : Nat} {a b c d : ByteArray} (h : Four W g a b c d) (hb : Below W.heap.size W W') : Four W' g a b c d := fun j hj => (hb.cell (World.block_lt_of_cell? _ _ (h j hj))).trans (h j hj)
theorem four_new (W : World) (a b c d : ByteArray) (T : TypeId) : Four (W.alloc (.cells #[.string a, .string b, .string c, .string d] T)) W.heap.size a b c d := fun j hj => by
  have : j = 0 ∨ j = 1 ∨ j = 2 ∨ j = 3 := by omega
  rcases this with rfl | rfl | rfl | rfl <;> simp [go_sem, pk]
theorem truth_any (b : Bool) (w : World) : Calls Tryz.prog 12 #[.bool b] w fun e w' => e = .returned (bV b) ∧ w' = w := by
  cases b
  · go_enter Tryz.func12, Tryz.ntmps12
    go_wp2_with fail
    go_ret
    exact ⟨rfl, rfl⟩
  · go_enter Tryz.func12, Tryz.ntmps12
    go_wp2_with fail
    go_ret
    exact ⟨rfl, rfl⟩
set_option maxRecDepth 100000 in
set_option maxHeartbeats 8000000 in
theorem matchListed_walk (a b c d : ByteArray) (m : Int) (w : World) (hM : MaxL m w) (hv : a.size + b.size + c.size + d.size ≤ 1048576) : Calls Tryz.prog 5 #[.string a, .string b, .string c, .string d] w fun e w' => e = .returned (.bool true) ∧ Below w.heap.size w w' := by
  have hM0 : Hid (∀ W, Below w.heap.size w W → MaxL m W) := fun W h => hM.below h
  have hv' : Hid (a.size + b.size + c.size + d.size ≤ 1048576) := hv
  have h1 : Hid (Calls Tryz.prog 7 #[.int .i64 13, .string ⟨#[65, 36, 98, 92, 50, 52]⟩, .string ⟨#[97, 36, 32, 66, 92, 50, 52]⟩] w fun e w' => e = .returned (.int .i64 2) ∧ Below w.heap.size w w') := fix1 m w hM
  clear hM hv
  go_enter Tryz.func5, Tryz.ntmps5
  go_wp2_with fail
  refine h1.out.mono ?_
  rintro e w1 ⟨rfl, hb1⟩
  have o1 : Hid (Below w.heap.size w w1) := hb1
  have h2 : Hid (Calls Tryz.prog 7 #[.int .i64 13, .string ⟨#[97, 36, 98]⟩, .string ⟨#[97, 92, 50, 52, 98]⟩] w1 fun e w' => e = .returned (.int .i64 0) ∧ Below w1.heap.size w1 w') := fix2 m w1 (hM0.out _ hb1)
  clear h1 hb1
  go_wp2_with fail
  refine h2.out.mono ?_
  rintro e w2 ⟨rfl, hb2⟩
  have o2 : Hid (Below w.heap.size w w2) := o1.out.trans (hb2.mono o1.out.size)
  have h3 : Hid (Calls Tryz.prog 7 #[.int .i64 13, .string ⟨#[97]⟩, .string ⟨#[97, 36]⟩] w2 fun e w' => e = .returned (.int .i64 1) ∧ Below w2.heap.size w2 w') := fix3 m w2 (hM0.out _ o2.out)
  clear h2 hb2 o1
  go_wp2_with fail
  refine h3.out.mono ?_
  rintro e w3 ⟨rfl, hb3⟩
  have o3 : Hid (Below w.heap.size w w3) := o2.out.trans (hb3.mono o2.out.size)
  obtain ⟨W4, hW4⟩ : ∃ W4, w3.alloc (.cells #[.string a, .string b, .string c, .string d] 9) = W4 := ⟨_, rfl⟩
  have hF : Four W4 w3.heap.size a b c d := by rw [← hW4]; exact four_new w3 a b c d _
  have o4 : Below w.heap.size w W4 := by rw [← hW4]; exact o3.out.alloc o3.out.size _
  have hI0 : Hid (Four W4 w3.heap.size a b c d ∧ Below w.heap.size w W4 ∧ ∀ j, j < 0 → tOk (pk a b c d j) = true) := ⟨hF, o4, fun j hj => absurd hj (Nat.not_lt_zero j)⟩
  clear h3 hb3 o2 hF o4 o3
  go_wp2_with fail
  clear hW4
  generalize w3.heap.size = g at *
  go_loopw [10] (fun iv wr => ∃ (k : Nat), k ≤ 4 ∧ iv = .int .i64 (k : Int) ∧ Hid (Four wr g a b c d ∧ Below w.heap.size w wr ∧ ∀ j, j < k → tOk (pk a b c d j) = true)) (fun iv _ => 4 - (intOf iv).toNat)
  case atStart => exact ⟨0, Nat.zero_le _, rfl, hI0⟩
  case round =>
    obtain ⟨k, hk, rfl, hI⟩ := hrel
    clear hI0
    have i0 : (0 : Int) ≤ (k : Int) := Int.natCast_nonneg _
    by_cases hlt : k < 4
    · have i1 : (k : Int) < 4 := by omega
      have hps : (pk a b c d k).size ≤ 1048576 := by
        have := hv'.out
        have : k = 0 ∨ k = 1 ∨ k = 2 ∨ k = 3 := by omega
        rcases this with rfl | rfl | rfl | rfl <;> simp only [pk] <;> omega
      have hck : wr.drew.cell? ⟨g, k, none⟩ = some (.string (pk a b c d k)) := hI.out.1 k hlt
      have hE : Hid (Calls Tryz.prog 7 #[.int .i64 1, .string (pk a b c d k), .string (pk a b c d k)] wr.drew fun e w' => e = .returned (.int .i64 (if tOk (pk a b c d k) then 2 else 1)) ∧ Below wr.drew.heap.size wr.drew w') := textEq_self _ hps wr.drew
      have hI2 : Hid (∀ w', Below wr.drew.heap.size wr.drew w' → Four w' g a b c d ∧ Below w.heap.size w w') := fun w' hb => by
        have hb0 : Below wr.heap.size wr wr.drew := ⟨rfl, rfl, rfl, Nat.le_refl _, fun _ _ => rfl⟩
        have hb' := hb0.trans hb
        exact ⟨hI.out.1.below hb', hI.out.2.1.trans (hb'.mono hI.out.2.1.size)⟩
      have hold : Hid (∀ j, j < k → tOk (pk a b c d j) = true) := hI.out.2.2
      have hLn : Hid (∀ W, Calls Tryz.prog 11 #[.string (pk a b c d k)] W fun e w' => e = .returned (.string (S (ln (pk a b c d k)))) ∧ Below W.heap.size W w') := fun W => line_any _ W hps
      have hB : Hid (tOk (pk a b c d k) = false → ∀ W, Below w.heap.size w W → Calls Tryz.prog 7 #[.int .i64 13, .string (S (ln (pk a b c d k)) ++ ⟨#[36, 120]⟩), .string ⟨#[120]⟩] W fun e w' => e = .returned (.int .i64 0) ∧ Below W.heap.size W w') := fun h W hW => badEq m hps h W (hM0.out W hW)
      obtain ⟨ok, hok⟩ : ∃ ok, tOk (pk a b c d k) = ok := ⟨_, rfl⟩
      have hok' : Hid (tOk (pk a b c d k) = ok) := hok
      have hck2 : Hid (∀ W, Four W g a b c d → W.cell? ⟨g, k, none⟩ = some (.string (pk a b c d k))) := fun W h => h k hlt
      have hlt' : Hid (k < 4) := hlt
      rw [hok] at hE hB
      have hlp : (S (ln (pk a b c d k))).size ≤ 3145728 := by rw [S_size]; have := ln_len (pk a b c d k); omega
      have hpk : Hid (∀ j, tOk (pk a b c d k) = true → j = k → tOk (pk a b c d j) = true) := fun j h e => by rw [e]; exact h
      generalize pk a b c d k = p at *
      clear hI hok hps hlt
      cases ok with
      | true =>
        have hE' : Hid (Calls Tryz.prog 7 #[.int .i64 1, .string p, .string p] wr.drew fun e w' => e = .returned (.int .i64 2) ∧ Below wr.drew.heap.size wr.drew w') := hE
        clear hE hB hLn
        go_upto_region 7 with fail
        go_region_held3 (fun w' => w'.cell? ⟨g, k, none⟩ = some (.string p)) (first | exact hck)
          (first | (go_at_call 7; refine hE'.out.mono ?_; rintro e w5 ⟨rfl, hb5⟩; obtain ⟨hf5, hw5⟩ := hI2.out w5 hb5; have hck := hck2.out w5 hf5))
        have hI5 : Hid (Four w5 g a b c d ∧ Below w.heap.size w w5) := ⟨hf5, hw5⟩
        clear hck hck2 hE' hI2 hf5 hw5 hb5
        go_wp2_with fail
        go_roundw
        case rel => exact ⟨k + 1, hlt'.out, by simp, hI5.out.1, hI5.out.2, fun j hj => by
          by_cases e : j = k
          · exact hpk.out j hok'.out e
          · exact hold.out j (by omega)⟩
        case measure => have := hlt'.out; simp [intOf]; omega
      | false =>
        have hE' : Hid (Calls Tryz.prog 7 #[.int .i64 1, .string p, .string p] wr.drew fun e w' => e = .returned (.int .i64 1) ∧ Below wr.drew.heap.size wr.drew w') := hE
        clear hE
        go_upto_region 7 with fail
        go_region_held3 (fun w' => w'.cell? ⟨g, k, none⟩ = some (.string p)) (first | exact hck)
          (first | (go_at_call 7; refine hE'.out.mono ?_; rintro e w5 ⟨rfl, hb5⟩; obtain ⟨hf5, hw5⟩ := hI2.out w5 hb5; have hck := hck2.out w5 hf5))
        have hI5 : Hid (Below w.heap.size w w5) := hw5
        have hc5 := hck2.out w5 hf5
        have hL5 := hLn.out w5
        have hL5' : Hid (Calls Tryz.prog 11 #[.string p] w5 fun e w' => e = .returned (.string (S (ln p))) ∧ Below w5.heap.size w5 w') := hL5
        clear hck hck2 hE' hI2 hf5 hw5 hb5 hL5 hLn hold
        go_wp2_with fail
        refine hL5'.out.mono ?_
        rintro e w6 ⟨rfl, hb6⟩
        have o6 : Hid (Below w.heap.size w w6) := hI5.out.trans (hb6.mono hI5.out.size)
        have hB6 : Hid (Calls Tryz.prog 7 #[.int .i64 13, .string (S (ln p) ++ ⟨#[36, 120]⟩), .string ⟨#[120]⟩] w6 fun e w' => e = .returned (.int .i64 0) ∧ Below w6.heap.size w6 w') := hB.out trivial w6 o6.out
        clear hL5' hb6 hI5 hc5 hB
        generalize S (ln p) = lp at *
        have s1 : ¬ lp.size + 2 > 9223372036854775807 := by omega
        go_wp2_with fail
        refine hB6.out.mono ?_
        rintro e w7 ⟨rfl, hb7⟩
        have o7 : Hid (Below w.heap.size w w7) := o6.out.trans (hb7.mono o6.out.size)
        clear hB6 hb7 o6
        go_wp2_with fail
        go_ret
        exact ⟨rfl, o7.out⟩
    · obtain rfl : k = 4 := by omega
      clear hk hlt
      have o0 : Hid (Below w.heap.size w wr) := hI.out.2.1
      have sa : a.size ≤ 1048576 := by have := hv'.out; omega
      have sb : b.size ≤ 1048576 := by have := hv'.out; omega
      have sc : c.size ≤ 1048576 := by have := hv'.out; omega
      have sd : d.size ≤ 1048576 := by have := hv'.out; omega
      have oa : tOk a = true := hI.out.2.2 0 (by omega)
      have ob : tOk b = true := hI.out.2.2 1 (by omega)
      have oc : tOk c = true := hI.out.2.2 2 (by omega)
      have od : tOk d = true := hI.out.2.2 3 (by omega)
      have l1 := ln_len a
      have l2 := ln_len b
      have l3 := ln_len c
      have l4 := ln_len d
      have hcat : ∀ x y : ByteArray, (S (ln x) ++ (⟨#[36]⟩ : ByteArray)) ++ S (ln y) = S (ln x ++ 36 :: ln y) := fun x y => by
        rw [show (⟨#[36]⟩ : ByteArray) = S [36] from rfl, appS, appS]
        simp
      have z1 : (S (ln a ++ 36 :: ln b)).size ≤ 8388608 := by rw [S_size, List.length_append, List.length_cons]; omega
      have z2 : (S (ln c ++ 36 :: ln d)).size ≤ 8388608 := by rw [S_size, List.length_append, List.length_cons]; omega
      have z3 : (S (ln a)).size ≤ 8388608 := by rw [S_size]; omega
      have z4 : (S (ln c)).size ≤ 8388608 := by rw [S_size]; omega
      have hla : Hid (∀ W, Calls Tryz.prog 11 #[.string a] W fun e w' => e = .returned (.string (S (ln a))) ∧ Below W.heap.size W w') := fun W => line_any a W sa
      have hlb : Hid (∀ W, Calls Tryz.prog 11 #[.string b] W fun e w' => e = .returned (.string (S (ln b))) ∧ Below W.heap.size W w') := fun W => line_any b W sb
      have hlc : Hid (∀ W, Calls Tryz.prog 11 #[.string c] W fun e w' => e = .returned (.string (S (ln c))) ∧ Below W.heap.size W w') := fun W => line_any c W sc
      have hld : Hid (∀ W, Calls Tryz.prog 11 #[.string d] W fun e w' => e = .returned (.string (S (ln d))) ∧ Below W.heap.size W w') := fun W => line_any d W sd
      have hac : Hid (∀ W, Calls Tryz.prog 7 #[.int .i64 1, .string a, .string c] W fun e w' => e = .returned (bV (decide (nt a = nt c))) ∧ Below W.heap.size W w') := fun W => textEq_ok a c sa sc oa oc W
      have hbd : Hid (∀ W, Calls Tryz.prog 7 #[.int .i64 1, .string b, .string d] W fun e w' => e = .returned (bV (decide (nt b = nt d))) ∧ Below W.heap.size W w') := fun W => textEq_ok b d sb sd ob od W
      have hE3 : Hid (∀ W, Below w.heap.size w W → Calls Tryz.prog 7 #[.int .i64 13, .string ((S (ln a) ++ (⟨#[36]⟩ : ByteArray)) ++ S (ln b)), .string ((S (ln c) ++ (⟨#[36]⟩ : ByteArray)) ++ S (ln d))] W fun e w' => e = .returned (bV (decide (nt a = nt c) && decide (nt b = nt d))) ∧ Below W.heap.size W w') := fun W hW => by
        have h := listEq_any m _ _ z1 z2 W (hM0.out W hW)
        rw [eq_two oa ob oc od, ← hcat, ← hcat] at h
        exact h
      have hE4 : Hid (∀ W, Below w.heap.size w W → Calls Tryz.prog 7 #[.int .i64 13, .string ((S (ln a) ++ (⟨#[36]⟩ : ByteArray)) ++ S (ln b)), .string (S (ln a))] W fun e w' => e = .returned (.int .i64 0) ∧ Below W.heap.size W w') := fun W hW => by
        have h := listEq_any m _ _ z1 z3 W (hM0.out W hW)
        rw [eq_three oa ob oa, ← hcat] at h
        exact h
      have hE5 : Hid (∀ W, Below w.heap.size w W → Calls Tryz.prog 7 #[.int .i64 13, .string (S (ln a)), .string (S (ln c))] W fun e w' => e = .returned (bV (decide (nt a = nt c))) ∧ Below W.heap.size W w') := fun W hW => by
        have h := listEq_any m _ _ z3 z4 W (hM0.out W hW)
        rw [eq_one oa oc] at h
        exact h
      have hTr : Hid (∀ (q : Bool) W, Calls Tryz.prog 12 #[.bool q] W fun e w' => e = .returned (bV q) ∧ w' = W) := fun q W => truth_any q W
      generalize decide (nt a = nt c) = p at *
      generalize decide (nt b = nt d) = q at *
      have za : (S (ln a)).size ≤ 3145728 := by rw [S_size]; omega
      have zb : (S (ln b)).size ≤ 3145728 := by rw [S_size]; omega
      have zc : (S (ln c)).size ≤ 3145728 := by rw [S_size]; omega
      have zd : (S (ln d)).size ≤ 3145728 := by rw [S_size]; omega
      generalize S (ln a) = la at *
      generalize S (ln b) = lb at *
      generalize S (ln c) = lc at *
      generalize S (ln d) = ld at *
      have s1 : ¬ la.size + 1 > 9223372036854775807 := by omega
      have s2 : ¬ lc.size + 1 > 9223372036854775807 := by omega
      have s3 : ¬ (la ++ (⟨#[36]⟩ : ByteArray)).size + lb.size > 9223372036854775807 := by rw [ByteArray.size_append, show (⟨#[36]⟩ : ByteArray).size = 1 from rfl]; omega
      have s4 : ¬ (lc ++ (⟨#[36]⟩ : ByteArray)).size + ld.size > 9223372036854775807 := by rw [ByteArray.size_append, show (⟨#[36]⟩ : ByteArray).size = 1 from rfl]; omega
      obtain ⟨la1, e1⟩ : ∃ x, la ++ (⟨#[36]⟩ : ByteArray) = x := ⟨_, rfl⟩
      obtain ⟨lc1, e2⟩ : ∃ x, lc ++ (⟨#[36]⟩ : ByteArray) = x := ⟨_, rfl⟩
      rw [e1, e2] at hE3
      rw [e1] at hE4 s3
      rw [e2] at s4
      obtain ⟨AB, e3⟩ : ∃ x, la1 ++ lb = x := ⟨_, rfl⟩
      obtain ⟨CD, e4⟩ : ∃ x, lc1 ++ ld = x := ⟨_, rfl⟩
      rw [e3, e4] at hE3
      rw [e3] at hE4
      clear hI hcat z1 z2 z3 z4 sa sb sc sd oa ob oc od l1 l2 l3 l4 hv' za zb zc zd
      go_wp2_with fail
      refine (hla.out _).mono ?_
      rintro e w5 ⟨rfl, hb5⟩
      have o5 : Hid (Below w.heap.size w w5) := o0.out.trans (hb5.mono o0.out.size)
      clear hb5
      go_wp2_with fail
      refine (hlb.out _).mono ?_
      rintro e w6 ⟨rfl, hb6⟩
      have o6 : Hid (Below w.heap.size w w6) := o5.out.trans (hb6.mono o5.out.size)
      clear hb6 o5
      go_wp2_with fail
      refine (hlc.out _).mono ?_
      rintro e w7 ⟨rfl, hb7⟩
      have o7 : Hid (Below w.heap.size w w7) := o6.out.trans (hb7.mono o6.out.size)
      clear hb7 o6
      go_wp2_with fail
      refine (hld.out _).mono ?_
      rintro e w8 ⟨rfl, hb8⟩
      have o8 : Hid (Below w.heap.size w w8) := o7.out.trans (hb8.mono o7.out.size)
      clear hb8 o7 hlb hld
      go_wp2_with fail
      cases p with
      | false =>
        have hac' : Hid (∀ W, Calls Tryz.prog 7 #[.int .i64 1, .string a, .string c] W fun e w' => e = .returned (.int .i64 0) ∧ Below W.heap.size W w') := hac
        have hE3' : Hid (∀ W, Below w.heap.size w W → Calls Tryz.prog 7 #[.int .i64 13, .string AB, .string CD] W fun e w' => e = .returned (.int .i64 0) ∧ Below W.heap.size W w') := hE3
        have hE5' : Hid (∀ W, Below w.heap.size w W → Calls Tryz.prog 7 #[.int .i64 13, .string la, .string lc] W fun e w' => e = .returned (.int .i64 0) ∧ Below W.heap.size W w') := hE5
        have hTr' : Hid (∀ W, Calls Tryz.prog 12 #[.bool false] W fun e w' => e = .returned (.int .i64 0) ∧ w' = W) := fun W => hTr.out false W
        clear hac hbd hE3 hE5 hTr
        refine (hac'.out _).mono ?_
        rintro e w9 ⟨rfl, hb9⟩
        have o9 : Hid (Below w.heap.size w w9) := o8.out.trans (hb9.mono o8.out.size)
        clear hb9 o8
        go_wp2_with fail
        refine (hE3'.out _ o9.out).mono ?_
        rintro e w10 ⟨rfl, hb10⟩
        have o10 : Hid (Below w.heap.size w w10) := o9.out.trans (hb10.mono o9.out.size)
        clear hb10 o9
        go_wp2_with fail
        refine (hTr'.out _).mono ?_
        rintro e wt ⟨rfl, rfl⟩
        go_wp2_with fail
        refine (hla.out _).mono ?_
        rintro e w11 ⟨rfl, hb11⟩
        have o11 : Hid (Below w.heap.size w w11) := o10.out.trans (hb11.mono o10.out.size)
        clear hb11 o10
        go_wp2_with fail
        refine (hE4.out _ o11.out).mono ?_
        rintro e w12 ⟨rfl, hb12⟩
        have o12 : Hid (Below w.heap.size w w12) := o11.out.trans (hb12.mono o11.out.size)
        clear hb12 o11
        go_wp2_with fail
        refine (hla.out _).mono ?_
        rintro e w13 ⟨rfl, hb13⟩
        have o13 : Hid (Below w.heap.size w w13) := o12.out.trans (hb13.mono o12.out.size)
        clear hb13 o12
        go_wp2_with fail
        refine (hlc.out _).mono ?_
        rintro e w14 ⟨rfl, hb14⟩
        have o14 : Hid (Below w.heap.size w w14) := o13.out.trans (hb14.mono o13.out.size)
        clear hb14 o13
        go_wp2_with fail
        refine (hE5'.out _ o14.out).mono ?_
        rintro e w15 ⟨rfl, hb15⟩
        have o15 : Hid (Below w.heap.size w w15) := o14.out.trans (hb15.mono o14.out.size)
        clear hb15 o14
        go_wp2_with fail
        refine (hac'.out _).mono ?_
        rintro e w16 ⟨rfl, hb16⟩
        have o16 : Hid (Below w.heap.size w w16) := o15.out.trans (hb16.mono o15.out.size)
        clear hb16 o15
        go_wp2_with fail
        go_ret
        exact ⟨rfl, o16.out⟩
      | true =>
        cases q with
        | false =>
          have hac' : Hid (∀ W, Calls Tryz.prog 7 #[.int .i64 1, .string a, .string c] W fun e w' => e = .returned (.int .i64 2) ∧ Below W.heap.size W w') := hac
          have hbd' : Hid (∀ W, Calls Tryz.prog 7 #[.int .i64 1, .string b, .string d] W fun e w' => e = .returned (.int .i64 0) ∧ Below W.heap.size W w') := hbd
          have hE3' : Hid (∀ W, Below w.heap.size w W → Calls Tryz.prog 7 #[.int .i64 13, .string AB, .string CD] W fun e w' => e = .returned (.int .i64 0) ∧ Below W.heap.size W w') := hE3
          have hE5' : Hid (∀ W, Below w.heap.size w W → Calls Tryz.prog 7 #[.int .i64 13, .string la, .string lc] W fun e w' => e = .returned (.int .i64 2) ∧ Below W.heap.size W w') := hE5
          have hTr' : Hid (∀ W, Calls Tryz.prog 12 #[.bool false] W fun e w' => e = .returned (.int .i64 0) ∧ w' = W) := fun W => hTr.out false W
          clear hac hbd hE3 hE5 hTr
          refine (hac'.out _).mono ?_
          rintro e w9 ⟨rfl, hb9⟩
          have o9 : Hid (Below w.heap.size w w9) := o8.out.trans (hb9.mono o8.out.size)
          clear hb9 o8
          go_wp2_with fail
          refine (hbd'.out _).mono ?_
          rintro e w10 ⟨rfl, hb10⟩
          have o10 : Hid (Below w.heap.size w w10) := o9.out.trans (hb10.mono o9.out.size)
          clear hb10 o9
          go_wp2_with fail
          refine (hE3'.out _ o10.out).mono ?_
          rintro e w11 ⟨rfl, hb11⟩
          have o11 : Hid (Below w.heap.size w w11) := o10.out.trans (hb11.mono o10.out.size)
          clear hb11 o10
          go_wp2_with fail
          refine (hTr'.out _).mono ?_
          rintro e wt ⟨rfl, rfl⟩
          go_wp2_with fail
          refine (hla.out _).mono ?_
          rintro e w12 ⟨rfl, hb12⟩
          have o12 : Hid (Below w.heap.size w w12) := o11.out.trans (hb12.mono o11.out.size)
          clear hb12 o11
          go_wp2_with fail
          refine (hE4.out _ o12.out).mono ?_
          rintro e w13 ⟨rfl, hb13⟩
          have o13 : Hid (Below w.heap.size w w13) := o12.out.trans (hb13.mono o12.out.size)
          clear hb13 o12
          go_wp2_with fail
          refine (hla.out _).mono ?_
          rintro e w14 ⟨rfl, hb14⟩
          have o14 : Hid (Below w.heap.size w w14) := o13.out.trans (hb14.mono o13.out.size)
          clear hb14 o13
          go_wp2_with fail
          refine (hlc.out _).mono ?_
          rintro e w15 ⟨rfl, hb15⟩
          have o15 : Hid (Below w.heap.size w w15) := o14.out.trans (hb15.mono o14.out.size)
          clear hb15 o14
          go_wp2_with fail
          refine (hE5'.out _ o15.out).mono ?_
          rintro e w16 ⟨rfl, hb16⟩
          have o16 : Hid (Below w.heap.size w w16) := o15.out.trans (hb16.mono o15.out.size)
          clear hb16 o15
          go_wp2_with fail
          refine (hac'.out _).mono ?_
          rintro e w17 ⟨rfl, hb17⟩
          have o17 : Hid (Below w.heap.size w w17) := o16.out.trans (hb17.mono o16.out.size)
          clear hb17 o16
          go_wp2_with fail
          go_ret
          exact ⟨rfl, o17.out⟩
        | true =>
          have hac' : Hid (∀ W, Calls Tryz.prog 7 #[.int .i64 1, .string a, .string c] W fun e w' => e = .returned (.int .i64 2) ∧ Below W.heap.size W w') := hac
          have hbd' : Hid (∀ W, Calls Tryz.prog 7 #[.int .i64 1, .string b, .string d] W fun e w' => e = .returned (.int .i64 2) ∧ Below W.heap.size W w') := hbd
          have hE3' : Hid (∀ W, Below w.heap.size w W → Calls Tryz.prog 7 #[.int .i64 13, .string AB, .string CD] W fun e w' => e = .returned (.int .i64 2) ∧ Below W.heap.size W w') := hE3
          have hE5' : Hid (∀ W, Below w.heap.size w W → Calls Tryz.prog 7 #[.int .i64 13, .string la, .string lc] W fun e w' => e = .returned (.int .i64 2) ∧ Below W.heap.size W w') := hE5
          have hTr' : Hid (∀ W, Calls Tryz.prog 12 #[.bool true] W fun e w' => e = .returned (.int .i64 2) ∧ w' = W) := fun W => hTr.out true W
          clear hac hbd hE3 hE5 hTr
          refine (hac'.out _).mono ?_
          rintro e w9 ⟨rfl, hb9⟩
          have o9 : Hid (Below w.heap.size w w9) := o8.out.trans (hb9.mono o8.out.size)
          clear hb9 o8
          go_wp2_with fail
          refine (hbd'.out _).mono ?_
          rintro e w10 ⟨rfl, hb10⟩
          have o10 : Hid (Below w.heap.size w w10) := o9.out.trans (hb10.mono o9.out.size)
          clear hb10 o9
          go_wp2_with fail
          refine (hE3'.out _ o10.out).mono ?_
          rintro e w11 ⟨rfl, hb11⟩
          have o11 : Hid (Below w.heap.size w w11) := o10.out.trans (hb11.mono o10.out.size)
          clear hb11 o10
          go_wp2_with fail
          refine (hTr'.out _).mono ?_
          rintro e wt ⟨rfl, rfl⟩
          go_wp2_with fail
          refine (hla.out _).mono ?_
          rintro e w12 ⟨rfl, hb12⟩
          have o12 : Hid (Below w.heap.size w w12) := o11.out.trans (hb12.mono o11.out.size)
          clear hb12 o11
          go_wp2_with fail
          refine (hE4.out _ o12.out).mono ?_
          rintro e w13 ⟨rfl, hb13⟩
          have o13 : Hid (Below w.heap.size w w13) := o12.out.trans (hb13.mono o12.out.size)
          clear hb13 o12
          go_wp2_with fail
          refine (hla.out _).mono ?_
          rintro e w14 ⟨rfl, hb14⟩
          have o14 : Hid (Below w.heap.size w w14) := o13.out.trans (hb14.mono o13.out.size)
          clear hb14 o13
          go_wp2_with fail
          refine (hlc.out _).mono ?_
          rintro e w15 ⟨rfl, hb15⟩
          have o15 : Hid (Below w.heap.size w w15) := o14.out.trans (hb15.mono o14.out.size)
          clear hb15 o14
          go_wp2_with fail
          refine (hE5'.out _ o15.out).mono ?_
          rintro e w16 ⟨rfl, hb16⟩
          have o16 : Hid (Below w.heap.size w w16) := o15.out.trans (hb16.mono o15.out.size)
          clear hb16 o15
          go_wp2_with fail
          refine (hac'.out _).mono ?_
          rintro e w17 ⟨rfl, hb17⟩
          have o17 : Hid (Below w.heap.size w w17) := o16.out.trans (hb17.mono o16.out.size)
          clear hb17 o16
          go_wp2_with fail
          go_ret
          exact ⟨rfl, o17.out⟩
end Ml
end Go.Proofs.YtoofphmplfbjgaaGreat
