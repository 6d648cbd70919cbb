import Derived.Test.YtofghgggllfafaaDoorFlChB
namespace Go.Proofs.YtofghgggllfafaaDoor
open Go.RowKit
open TextMath
set_option linter.unusedVariables false

/-- What is left of a node beside what its Op asks for is empty. -/
def lef (o : Int) (s v i f r : ByteArray) (m : Nat) (b : Bool) : Bool :=
  if o = 9 then nop i f m
  else if o = 3 ∨ o = 5 ∨ o = 6 ∨ o = 8 then emp ⟨#[]⟩ ⟨#[]⟩ i f r m b
  else if o = 7 then emp ⟨#[]⟩ v i f r m b
  else if o = 4 then emp ⟨#[]⟩ v ⟨#[]⟩ ⟨#[]⟩ r 0 b
  else emp s v i f r m b
theorem left_any (o d : Int) (h0 : 0 ≤ o) (h9 : o ≤ 9) (s v i : ByteArray) (a : Option Addr) (m n : Nat) (f r : ByteArray) (b : Bool) (w : World) :
    Calls Tryd.prog 38 #[.agg #[.int .i64 d, .int .i64 o, .string s, .string v, .string i, .slice a m n, .string f, .string r, .bool b]] w fun e w' => (∃ d' o' s' v' i' a' m' n' f' r' b', e = .returned (.agg #[.int .i64 d', .int .i64 o', .string s', .string v', .string i', .slice a' m' n', .string f', .string r', .bool b']) ∧ emp s' v' i' f' r' m' b' = lef o s v i f r m b) ∧ Below w.heap.size w w' := by
  have hc : o = 0 ∨ o = 1 ∨ o = 2 ∨ o = 3 ∨ o = 4 ∨ o = 5 ∨ o = 6 ∨ o = 7 ∨ o = 8 ∨ o = 9 := by omega
  rcases hc with rfl | rfl | rfl | rfl | rfl | rfl | rfl | rfl | rfl | rfl
  · exact (wo0 d s v i a m n f r b w).mono (fun e w' ⟨h1, h2⟩ => ⟨⟨_, _, _, _, _, _, _, _, _, _, _, h1, by rfl⟩, h2⟩)
  · exact (wo1 d s v i a m n f r b w).mono (fun e w' ⟨h1, h2⟩ => ⟨⟨_, _, _, _, _, _, _, _, _, _, _, h1, by rfl⟩, h2⟩)
  · exact (wo2 d s v i a m n f r b w).mono (fun e w' ⟨h1, h2⟩ => ⟨⟨_, _, _, _, _, _, _, _, _, _, _, h1, by rfl⟩, h2⟩)
  · exact (wo3 d s v i a m n f r b w).mono (fun e w' ⟨h1, h2⟩ => ⟨⟨_, _, _, _, _, _, _, _, _, _, _, h1, by rfl⟩, h2⟩)
  · exact (wo4 d s v i a m n f r b w).mono (fun e w' ⟨h1, h2⟩ => ⟨⟨_, _, _, _, _, _, _, _, _, _, _, h1, by rfl⟩, h2⟩)
  · exact (wo5 d s v i a m n f r b w).mono (fun e w' ⟨h1, h2⟩ => ⟨⟨_, _, _, _, _, _, _, _, _, _, _, h1, by rfl⟩, h2⟩)
  · exact (wo6 d s v i a m n f r b w).mono (fun e w' ⟨h1, h2⟩ => ⟨⟨_, _, _, _, _, _, _, _, _, _, _, h1, by rfl⟩, h2⟩)
  · exact (wo7 d s v i a m n f r b w).mono (fun e w' ⟨h1, h2⟩ => ⟨⟨_, _, _, _, _, _, _, _, _, _, _, h1, by rfl⟩, h2⟩)
  · exact (wo8 d s v i a m n f r b w).mono (fun e w' ⟨h1, h2⟩ => ⟨⟨_, _, _, _, _, _, _, _, _, _, _, h1, by rfl⟩, h2⟩)
  · exact (wo9 d s v i a m n f r b w).mono (fun e w' ⟨h1, h2⟩ => ⟨⟨_, _, _, _, _, _, _, _, _, _, _, h1, by simp [lef, emp]⟩, h2⟩)

/-- Has a node what its Op asks for, and nothing else? -/
def sou (o : Int) (s v i f r : ByteArray) (l : List (List UInt8)) (b : Bool) : Bool :=
  if o < 0 ∨ 9 < o then false
  else if o = 9 ∧ s.toList = [] ∧ r.toList = [] then false
  else if o = 4 ∧ (nop i f l.length = true ∨ noE l = false) then false
  else utf s && utf r && lef o s v i f r l.length b
set_option maxRecDepth 100000 in
set_option maxHeartbeats 4000000 in
theorem sound_any (d o : Int) (s v i : ByteArray) (a : Option Addr) (l : List (List UInt8)) (n : Nat) (f r : ByteArray) (b : Bool) (w : World) (hl : l.length ≤ 1048576) (hs : s.size ≤ maxLen) (hr : r.size ≤ maxLen) (h1 : Row w a l) :
    Calls Tryd.prog 32 #[.agg #[.int .i64 d, .int .i64 o, .string s, .string v, .string i, .slice a l.length n, .string f, .string r, .bool b]] w fun e w' => e = .returned (.bool (sou o s v i f r l b)) ∧ Below w.heap.size w w' := by
  obtain ⟨Wb, hWb⟩ : ∃ W, w.alloc (.cells #[.int .i64 d, .int .i64 o, .string s, .string v, .string i, .slice a l.length n, .string f, .string r, .bool b] 38) = W := ⟨_, rfl⟩
  have p : Box Wb w.heap.size 38 (nB d o s v i a l.length n f r b) := by rw [← hWb]; exact Box.new _ _ _
  have hB : Hid (Below w.heap.size w Wb) := by rw [← hWb]; exact (Below.refl _ _).alloc (Nat.le_refl _) _
  have hK : Hid (∀ W, Below Wb.heap.size Wb W → W.cell? ⟨w.heap.size, 0, none⟩ = some (.int .i64 d) ∧ W.cell? ⟨w.heap.size, 1, none⟩ = some (.int .i64 o) ∧ W.cell? ⟨w.heap.size, 2, none⟩ = some (.string s) ∧ W.cell? ⟨w.heap.size, 3, none⟩ = some (.string v) ∧ W.cell? ⟨w.heap.size, 4, none⟩ = some (.string i) ∧ W.cell? ⟨w.heap.size, 5, none⟩ = some (.slice a l.length n) ∧ W.cell? ⟨w.heap.size, 6, none⟩ = some (.string f) ∧ W.cell? ⟨w.heap.size, 7, none⟩ = some (.string r) ∧ W.cell? ⟨w.heap.size, 8, none⟩ = some (.bool b)) := fun W hb => box_nineB (p.below hb)
  obtain ⟨c0, c1, c2, c3, c4, c5, c6, c7, c8⟩ := hK.out Wb (Below.refl _ _)
  have KP : Hid (∀ W, Calls Tryd.prog 34 #[.agg #[.string i, .slice a l.length n, .string f]] W fun e w' => e = .returned (.bool (nop i f l.length)) ∧ Below W.heap.size W w') := fun W => noPiece_any i f a l.length n W
  have KC : Hid (∀ W, Below Wb.heap.size Wb W → Calls Tryd.prog 35 #[.slice a l.length n, .string ⟨#[]⟩] W fun e w' => e = .returned (.bool (!noE l)) ∧ w' = W) := fun W hb => containsE_any l a n W hl ((h1.below hB.out).below hb)
  have KU : Hid (∀ W, Calls Tryd.prog 36 #[.string s] W fun e w' => e = .returned (.bool (utf s)) ∧ w' = W) := fun W => isUTF8_any s W hs
  have KV : Hid (∀ W, Calls Tryd.prog 36 #[.string r] W fun e w' => e = .returned (.bool (utf r)) ∧ w' = W) := fun W => isUTF8_any r W hr
  have KE : Hid (∀ (d o : Int) (s v i : ByteArray) (a : Option Addr) (m n : Nat) (f r : ByteArray) (b : Bool) W, Calls Tryd.prog 37 #[.agg #[.int .i64 d, .int .i64 o, .string s, .string v, .string i, .slice a m n, .string f, .string r, .bool b]] W fun e w' => e = .returned (.bool (emp s v i f r m b)) ∧ Below W.heap.size W w') := fun d o s v i a m n f r b W => empty_any d o s v i a m n f r b W
  have hB0 : Below Wb.heap.size Wb Wb := Below.refl _ _
  clear p h1 hl hs hr
  by_cases ho : o < 0 ∨ 9 < o
  · have hR : Hid (sou o s v i f r l b = false) := by unfold Hid sou; rw [if_pos ho]
    rw [hR.out]
    clear KP KC KU KV KE hK
    rcases ho with ho | ho
    · go_enter Tryd.func32, Tryd.ntmps32
      go_upto_region 1 with fail
      clear hWb
      go_wp2_with fail
      all_goals go_ret
      all_goals exact ⟨rfl, hB.out⟩
    · have ho' : ¬ o < 0 := by omega
      go_enter Tryd.func32, Tryd.ntmps32
      go_upto_region 1 with fail
      clear hWb
      go_wp2_with fail
      all_goals go_ret
      all_goals exact ⟨rfl, hB.out⟩
  · have ho1 : ¬ o < 0 := fun h => ho (Or.inl h)
    have ho2 : ¬ 9 < o := fun h => ho (Or.inr h)
    have KL : Hid (∀ W, Calls Tryd.prog 38 #[.agg #[.int .i64 d, .int .i64 o, .string s, .string v, .string i, .slice a l.length n, .string f, .string r, .bool b]] W fun e w' => (∃ d' o' s' v' i' a' m' n' f' r' b', e = .returned (.agg #[.int .i64 d', .int .i64 o', .string s', .string v', .string i', .slice a' m' n', .string f', .string r', .bool b']) ∧ emp s' v' i' f' r' m' b' = lef o s v i f r l.length b) ∧ Below W.heap.size W w') := fun W => left_any o d (by omega) (by omega) s v i a l.length n f r b W
    have hR : Hid (sou o s v i f r l b = if o = 9 ∧ s.toList = [] ∧ r.toList = [] then false else if o = 4 ∧ (nop i f l.length = true ∨ noE l = false) then false else utf s && utf r && lef o s v i f r l.length b) := by unfold Hid sou; rw [if_neg ho]
    rw [hR.out]
    clear ho hR
    by_cases hA : o = 9 ∧ s.toList = [] ∧ r.toList = []
    · obtain ⟨rfl, hA1, hA2⟩ := hA
      go_enter Tryd.func32, Tryd.ntmps32
      go_upto_region 1 with fail
      clear hWb
      go_wp2_with fail
      all_goals go_ret
      all_goals exact ⟨rfl, hB.out⟩
    · rw [if_neg hA]
      by_cases hC : o = 4 ∧ (nop i f l.length = true ∨ noE l = false)
      · rw [if_pos hC]
        obtain ⟨rfl, hC⟩ := hC
        have o9 : ((4 : Int) == 9) = false := by decide
        clear hA
        cases hP : nop i f l.length with
        | true =>
          rw [hP] at KP
          go_enter Tryd.func32, Tryd.ntmps32
          go_upto_region 1 with fail
          clear hWb
          go_wp2_with (go_at_call 34; refine (KP.out _).mono ?_; rintro e w1 ⟨rfl, hb1⟩)
          all_goals go_ret
          all_goals exact ⟨rfl, hB.out.trans (hb1.mono hB.out.size)⟩
        | false =>
          rw [hP] at KP
          have hN : noE l = false := by
            rcases hC with h | h
            · rw [hP] at h; cases h
            · exact h
          rw [hN] at KC
          go_enter Tryd.func32, Tryd.ntmps32
          go_upto_region 1 with fail
          clear hWb
          go_wp2_with (first | (go_at_call 34; refine (KP.out _).mono ?_; rintro e w1 ⟨rfl, hb1⟩; obtain ⟨d0, d1, d2, d3, d4, d5, d6, d7, d8⟩ := hK.out w1 hb1) | (go_at_call 35; refine (KC.out _ hb1).mono ?_; rintro e w2 ⟨rfl, rfl⟩))
          all_goals go_ret
          all_goals exact ⟨rfl, hB.out.trans (hb1.mono hB.out.size)⟩
      · rw [if_neg hC]
        clear hB0
        have T1 : True := trivial
        have T2 : True := trivial
        have T3 : True := trivial
        have T4 : True := trivial
        by_cases o4 : o = 4
        · subst o4
          have hP : nop i f l.length = false := by
            cases h : nop i f l.length with
            | false => rfl
            | true => exact absurd ⟨rfl, Or.inl h⟩ hC
          have hN : noE l = true := by
            cases h : noE l with
            | true => rfl
            | false => exact absurd ⟨rfl, Or.inr h⟩ hC
          rw [hP] at KP
          rw [hN] at KC
          have o9 : ((4 : Int) == 9) = false := by decide
          have T5 : True := trivial
          have T6 : True := trivial
          clear hC hA
          cases h1 : utf s with
          | false =>
            rw [h1] at KU
            go_enter Tryd.func32, Tryd.ntmps32
            go_upto_region 1 with fail
            clear hWb
            go_wp2_with (first | (clear T5; go_at_call 34; refine (KP.out _).mono ?_; rintro e w1 ⟨rfl, hb1⟩; obtain ⟨d0, d1, d2, d3, d4, d5, d6, d7, d8⟩ := hK.out w1 hb1) | (clear T6; go_at_call 35; refine (KC.out _ hb1).mono ?_; rintro e w2 ⟨rfl, rfl⟩) | (clear T1; go_at_call 36; refine (KU.out _).mono ?_; rintro e u1 ⟨rfl, rfl⟩))
            all_goals go_ret
            all_goals exact ⟨rfl, hB.out.trans (hb1.mono hB.out.size)⟩
          | true =>
            rw [h1] at KU
            cases h2 : utf r with
            | false =>
              rw [h2] at KV
              go_enter Tryd.func32, Tryd.ntmps32
              go_upto_region 1 with fail
              clear hWb
              go_wp2_with (first | (clear T5; go_at_call 34; refine (KP.out _).mono ?_; rintro e w1 ⟨rfl, hb1⟩; obtain ⟨d0, d1, d2, d3, d4, d5, d6, d7, d8⟩ := hK.out w1 hb1) | (clear T6; go_at_call 35; refine (KC.out _ hb1).mono ?_; rintro e w2 ⟨rfl, rfl⟩) | (clear T1; go_at_call 36; refine (KU.out _).mono ?_; rintro e u1 ⟨rfl, rfl⟩) | (clear T2; go_at_call 36; refine (KV.out _).mono ?_; rintro e u2 ⟨rfl, rfl⟩))
              all_goals go_ret
              all_goals exact ⟨rfl, hB.out.trans (hb1.mono hB.out.size)⟩
            | true =>
              rw [h2] at KV
              go_enter Tryd.func32, Tryd.ntmps32
              go_upto_region 1 with fail
              clear hWb
              go_wp2_with (first | (clear T5; go_at_call 34; refine (KP.out _).mono ?_; rintro e w1 ⟨rfl, hb1⟩; obtain ⟨d0, d1, d2, d3, d4, d5, d6, d7, d8⟩ := hK.out w1 hb1) | (clear T6; go_at_call 35; refine (KC.out _ hb1).mono ?_; rintro e w2 ⟨rfl, rfl⟩) | (clear T1; go_at_call 36; refine (KU.out _).mono ?_; rintro e u1 ⟨rfl, rfl⟩) | (clear T2; go_at_call 36; refine (KV.out _).mono ?_; rintro e u2 ⟨rfl, rfl⟩) | (clear T3; go_at_call 38; refine (KL.out _).mono ?_; rintro e u3 ⟨⟨d', o', s', v', i', a', m', n', f', r', b', rfl, hE⟩, hb3⟩) | (clear T4; go_at_call 37; refine (KE.out d' o' s' v' i' a' m' n' f' r' b' _).mono ?_; rintro e u4 ⟨rfl, hb4⟩))
              all_goals go_ret
              all_goals exact ⟨by rw [← hE]; rfl, (hB.out.trans (hb1.mono hB.out.size)).trans ((hb3.mono (hB.out.trans (hb1.mono hB.out.size)).size).trans (hb4.mono (Nat.le_trans (hB.out.trans (hb1.mono hB.out.size)).size hb3.size)))⟩
        · have p4 : (o == 4) = false := by simpa using o4
          by_cases o9 : o = 9
          · subst o9
            clear hC p4 o4
            by_cases hs : s.toList = []
            · have hr : ¬ r.toList = [] := fun h => hA ⟨rfl, hs, h⟩
              have hr2 : r.toList.isEmpty = false := by
                cases h : r.toList with
                | nil => exact absurd h hr
                | cons _ _ => rfl
              clear hA
              cases h1 : utf s with
              | false =>
                rw [h1] at KU
                go_enter Tryd.func32, Tryd.ntmps32
                go_upto_region 1 with fail
                clear hWb
                go_wp2_with (first | (clear T1; go_at_call 36; refine (KU.out _).mono ?_; rintro e u1 ⟨rfl, rfl⟩))
                all_goals go_ret
                all_goals exact ⟨rfl, hB.out⟩
              | true =>
                rw [h1] at KU
                cases h2 : utf r with
                | false =>
                  rw [h2] at KV
                  go_enter Tryd.func32, Tryd.ntmps32
                  go_upto_region 1 with fail
                  clear hWb
                  go_wp2_with (first | (clear T1; go_at_call 36; refine (KU.out _).mono ?_; rintro e u1 ⟨rfl, rfl⟩) | (clear T2; go_at_call 36; refine (KV.out _).mono ?_; rintro e u2 ⟨rfl, rfl⟩))
                  all_goals go_ret
                  all_goals exact ⟨rfl, hB.out⟩
                | true =>
                  rw [h2] at KV
                  go_enter Tryd.func32, Tryd.ntmps32
                  go_upto_region 1 with fail
                  clear hWb
                  go_wp2_with (first | (clear T1; go_at_call 36; refine (KU.out _).mono ?_; rintro e u1 ⟨rfl, rfl⟩) | (clear T2; go_at_call 36; refine (KV.out _).mono ?_; rintro e u2 ⟨rfl, rfl⟩) | (clear T3; go_at_call 38; refine (KL.out _).mono ?_; rintro e u3 ⟨⟨d', o', s', v', i', a', m', n', f', r', b', rfl, hE⟩, hb3⟩) | (clear T4; go_at_call 37; refine (KE.out d' o' s' v' i' a' m' n' f' r' b' _).mono ?_; rintro e u4 ⟨rfl, hb4⟩))
                  all_goals go_ret
                  all_goals exact ⟨by rw [← hE]; rfl, (hB.out).trans ((hb3.mono (hB.out).size).trans (hb4.mono (Nat.le_trans (hB.out).size hb3.size)))⟩
            · clear hA
              cases h1 : utf s with
              | false =>
                rw [h1] at KU
                go_enter Tryd.func32, Tryd.ntmps32
                go_upto_region 1 with fail
                clear hWb
                go_wp2_with (first | (clear T1; go_at_call 36; refine (KU.out _).mono ?_; rintro e u1 ⟨rfl, rfl⟩))
                all_goals go_ret
                all_goals exact ⟨rfl, hB.out⟩
              | true =>
                rw [h1] at KU
                cases h2 : utf r with
                | false =>
                  rw [h2] at KV
                  go_enter Tryd.func32, Tryd.ntmps32
                  go_upto_region 1 with fail
                  clear hWb
                  go_wp2_with (first | (clear T1; go_at_call 36; refine (KU.out _).mono ?_; rintro e u1 ⟨rfl, rfl⟩) | (clear T2; go_at_call 36; refine (KV.out _).mono ?_; rintro e u2 ⟨rfl, rfl⟩))
                  all_goals go_ret
                  all_goals exact ⟨rfl, hB.out⟩
                | true =>
                  rw [h2] at KV
                  go_enter Tryd.func32, Tryd.ntmps32
                  go_upto_region 1 with fail
                  clear hWb
                  go_wp2_with (first | (clear T1; go_at_call 36; refine (KU.out _).mono ?_; rintro e u1 ⟨rfl, rfl⟩) | (clear T2; go_at_call 36; refine (KV.out _).mono ?_; rintro e u2 ⟨rfl, rfl⟩) | (clear T3; go_at_call 38; refine (KL.out _).mono ?_; rintro e u3 ⟨⟨d', o', s', v', i', a', m', n', f', r', b', rfl, hE⟩, hb3⟩) | (clear T4; go_at_call 37; refine (KE.out d' o' s' v' i' a' m' n' f' r' b' _).mono ?_; rintro e u4 ⟨rfl, hb4⟩))
                  all_goals go_ret
                  all_goals exact ⟨by rw [← hE]; rfl, (hB.out).trans ((hb3.mono (hB.out).size).trans (hb4.mono (Nat.le_trans (hB.out).size hb3.size)))⟩
          · have p9 : (o == 9) = false := by simpa using o9
            clear hC hA
            cases h1 : utf s with
            | false =>
              rw [h1] at KU
              go_enter Tryd.func32, Tryd.ntmps32
              go_upto_region 1 with fail
              clear hWb
              go_wp2_with (first | (clear T1; go_at_call 36; refine (KU.out _).mono ?_; rintro e u1 ⟨rfl, rfl⟩))
              all_goals go_ret
              all_goals exact ⟨rfl, hB.out⟩
            | true =>
              rw [h1] at KU
              cases h2 : utf r with
              | false =>
                rw [h2] at KV
                go_enter Tryd.func32, Tryd.ntmps32
                go_upto_region 1 with fail
                clear hWb
                go_wp2_with (first | (clear T1; go_at_call 36; refine (KU.out _).mono ?_; rintro e u1 ⟨rfl, rfl⟩) | (clear T2; go_at_call 36; refine (KV.out _).mono ?_; rintro e u2 ⟨rfl, rfl⟩))
                all_goals go_ret
                all_goals exact ⟨rfl, hB.out⟩
              | true =>
                rw [h2] at KV
                go_enter Tryd.func32, Tryd.ntmps32
                go_upto_region 1 with fail
                clear hWb
                go_wp2_with (first | (clear T1; go_at_call 36; refine (KU.out _).mono ?_; rintro e u1 ⟨rfl, rfl⟩) | (clear T2; go_at_call 36; refine (KV.out _).mono ?_; rintro e u2 ⟨rfl, rfl⟩) | (clear T3; go_at_call 38; refine (KL.out _).mono ?_; rintro e u3 ⟨⟨d', o', s', v', i', a', m', n', f', r', b', rfl, hE⟩, hb3⟩) | (clear T4; go_at_call 37; refine (KE.out d' o' s' v' i' a' m' n' f' r' b' _).mono ?_; rintro e u4 ⟨rfl, hb4⟩))
                all_goals go_ret
                all_goals exact ⟨by rw [← hE]; rfl, (hB.out).trans ((hb3.mono (hB.out).size).trans (hb4.mono (Nat.le_trans (hB.out).size hb3.size)))⟩
end Go.Proofs.YtofghgggllfafaaDoor
