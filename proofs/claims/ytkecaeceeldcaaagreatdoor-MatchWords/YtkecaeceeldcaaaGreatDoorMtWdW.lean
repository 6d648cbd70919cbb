import Derived.Test.YtkecaeceeldcaaaGreatDoorMtWdE
namespace Go.Proofs.YtkecaeceeldcaaaGreatDoor
open Go.RowKit
set_option linter.unusedVariables false
set_option linter.unusedSimpArgs false
namespace Wd

set_option maxRecDepth 100000 in
set_option maxHeartbeats 4000000 in
theorem matchWords_walk (a b c : ByteArray) (m : Int) (w : World) (hM : MaxL m w) (ha : a.size ≤ 4611686018427387904) (hb : b.size ≤ 4611686018427387904) (hc : c.size ≤ 4611686018427387904) :
    Calls Tryz.prog 6 #[.string a, .string b, .string c] w fun e w' => e = .returned (.bool true) ∧ Below w.heap.size w w' := by
  have hLa : ∀ W, Hid (Calls Tryz.prog 16 #[.string a] W fun e w' => e = .returned (.string (S (Lb.fx a.data.toList 20))) ∧ Below W.heap.size W w') := fun W => Lb.label_any a W ha
  have hLb : ∀ W, Hid (Calls Tryz.prog 16 #[.string b] W fun e w' => e = .returned (.string (S (Lb.fx b.data.toList 20))) ∧ Below W.heap.size W w') := fun W => Lb.label_any b W hb
  have hLc : ∀ W, Hid (Calls Tryz.prog 16 #[.string c] W fun e w' => e = .returned (.string (S (Lb.fx c.data.toList 20))) ∧ Below W.heap.size W w') := fun W => Lb.label_any c W hc
  obtain ⟨X, Y, Z, SX, SY, V1, V2, V3, V4, V, Q, P, WW, bq, ⟨hX, hY, hZ⟩, ⟨hs1, hs2⟩, ⟨⟨c1, c2, c3, c4, c5⟩, c6, c7, c8⟩, ⟨⟨s1, s2, s3, s4, s5⟩, s6, s7, s8⟩, ⟨n1, n2, n3⟩, hR1, hR2, hR3, hR4, hR5, hR6, hR7⟩ := wd_pack m w hM (lb_wt a.data.toList) (lb_wt b.data.toList) (lb_wt c.data.toList) (lb_len _) (lb_len _) (lb_len _)
  simp only [hX] at hLa
  simp only [hY] at hLb
  simp only [hZ] at hLc
  have hT : ∀ W, Hid (Calls Tryz.prog 18 #[.bool bq] W fun e w' => e = .returned (.int .i64 (if bq then 2 else 0)) ∧ w' = W) := fun W => truth_any bq W
  have o0 : Hid (Below w.heap.size w w) := Below.refl _ _
  have f : Hid ((WW.toList == X.toList || WW.toList == Y.toList || WW.toList == Z.toList) = bq) := by
    unfold Hid
    rw [beq_eq_false_iff_ne.2 n1, beq_eq_false_iff_ne.2 n2, ← n3, Bool.eq_iff_iff]
    simp
  clear hM ha hb hc hX hY hZ n3
  cases bq
  all_goals (
    simp only [if_true, Bool.false_eq_true, if_false] at hR4 hT
    go_enter Tryz.func6, Tryz.ntmps6
    go_wp2_with fail
    refine (hLa _).out.mono ?_
    rintro e w1 ⟨rfl, hb⟩
    have o1 : Hid (Below w.heap.size w w1) := o0.out.trans (hb.mono o0.out.size)
    clear hb hLa o0
    go_wp2_with fail
    refine (hLb _).out.mono ?_
    rintro e w2 ⟨rfl, hb⟩
    have o2 : Hid (Below w.heap.size w w2) := o1.out.trans (hb.mono o1.out.size)
    clear hb hLb o1
    go_wp2_with fail
    refine (hLc _).out.mono ?_
    rintro e w3 ⟨rfl, hb⟩
    have o3 : Hid (Below w.heap.size w w3) := o2.out.trans (hb.mono o2.out.size)
    clear hb hLc o2
    go_wp2_with fail
    refine (hs1 _).out.mono ?_
    rintro e w4 ⟨rfl, hb⟩
    have o4 : Hid (Below w.heap.size w w4) := o3.out.trans (hb.mono o3.out.size)
    clear hb hs1 o3
    go_wp2_with fail
    refine (hR1 _ o4.out).out.mono ?_
    rintro e w5 ⟨rfl, hb⟩
    have o5 : Hid (Below w.heap.size w w5) := o4.out.trans (hb.mono o4.out.size)
    clear hb hR1 o4
    go_wp2_with fail
    refine (hs2 _).out.mono ?_
    rintro e w6 ⟨rfl, hb⟩
    have o6 : Hid (Below w.heap.size w w6) := o5.out.trans (hb.mono o5.out.size)
    clear hb hs2 o5
    go_wp2_with fail
    refine (hR2 _ o6.out).out.mono ?_
    rintro e w7 ⟨rfl, hb⟩
    have o7 : Hid (Below w.heap.size w w7) := o6.out.trans (hb.mono o6.out.size)
    clear hb hR2 o6
    go_wp2_with fail
    refine (hR3 _ o7.out).out.mono ?_
    rintro e w8 ⟨rfl, hb⟩
    have o8 : Hid (Below w.heap.size w w8) := o7.out.trans (hb.mono o7.out.size)
    clear hb hR3 o7
    go_wp2_with fail
    refine (hR4 _ o8.out).out.mono ?_
    rintro e w9 ⟨rfl, hb⟩
    have o9 : Hid (Below w.heap.size w w9) := o8.out.trans (hb.mono o8.out.size)
    clear hb hR4 o8
    go_wp2_with fail
    rw [f.out]
    refine (hT _).out.mono ?_
    rintro e w' ⟨rfl, hww⟩
    obtain rfl := hww.symm
    clear hww hT n1 n2 f
    go_wp2_with fail
    refine (hR5 _ o9.out).out.mono ?_
    rintro e w10 ⟨rfl, hb⟩
    have o10 : Hid (Below w.heap.size w w10) := o9.out.trans (hb.mono o9.out.size)
    clear hb hR5 o9
    go_wp2_with fail
    refine (hR6 _ o10.out).out.mono ?_
    rintro e w11 ⟨rfl, hb⟩
    have o11 : Hid (Below w.heap.size w w11) := o10.out.trans (hb.mono o10.out.size)
    clear hb hR6 o10
    go_wp2_with fail
    refine (hR7 _ o11.out).out.mono ?_
    rintro e w12 ⟨rfl, hb⟩
    have o12 : Hid (Below w.heap.size w w12) := o11.out.trans (hb.mono o11.out.size)
    clear hb hR7 o11
    go_wp2_with fail
    go_ret
    exact ⟨rfl, o12.out⟩)
end Wd
end Go.Proofs.YtkecaeceeldcaaaGreatDoor
