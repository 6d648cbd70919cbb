import Derived.Test.YtofghgggllfafaaDoorFlFl0
namespace Go.Proofs.YtofghgggllfafaaDoor
open Go.RowKit
open TextMath
set_option linter.unusedVariables false
set_option linter.unusedSimpArgs false

set_option maxRecDepth 100000 in
set_option maxHeartbeats 4000000 in
theorem fd0 (d : Int) (s v i : ByteArray) (a : Option Addr) (l : List (List UInt8)) (n : Nat) (f r : ByteArray) (b : Bool) (w : World) (hl : l.length ≤ 1048576) (hs : s.size ≤ 140737488355328) (hr : r.size ≤ 140737488355328) (h1 : Row w a l) (hT : RowTab w) :
    Calls Tryd.prog 22 #[.agg #[.int .i64 d, .int .i64 0, .string s, .string v, .string i, .slice a l.length n, .string f, .string r, .bool b]] w fun e w' => e = .returned (.bool (sou 0 s v i f r l b)) ∧ Below w.heap.size w w' := by
  obtain ⟨Wb, hWb⟩ : ∃ W, w.alloc (.cells #[.int .i64 d, .int .i64 0, .string s, .string v, .string i, .slice a l.length n, .string f, .string r, .bool b] 38) = W := ⟨_, rfl⟩
  have p : Box Wb w.heap.size 38 (nB d 0 s v i a l.length n f r b) := by rw [← hWb]; exact Box.new _ _ _
  have hB : Hid (Below w.heap.size w Wb) := by rw [← hWb]; exact (Below.refl _ _).alloc (Nat.le_refl _) _
  have hK : Hid (∀ W, Below Wb.heap.size Wb W → W.cell? ⟨w.heap.size, 0, none⟩ = some (.int .i64 d) ∧ W.cell? ⟨w.heap.size, 1, none⟩ = some (.int .i64 0) ∧ W.cell? ⟨w.heap.size, 2, none⟩ = some (.string s) ∧ W.cell? ⟨w.heap.size, 3, none⟩ = some (.string v) ∧ W.cell? ⟨w.heap.size, 4, none⟩ = some (.string i) ∧ W.cell? ⟨w.heap.size, 5, none⟩ = some (.slice a l.length n) ∧ W.cell? ⟨w.heap.size, 6, none⟩ = some (.string f) ∧ W.cell? ⟨w.heap.size, 7, none⟩ = some (.string r) ∧ W.cell? ⟨w.heap.size, 8, none⟩ = some (.bool b)) := fun W hb => box_nineB (p.below hb)
  obtain ⟨c0, c1, c2, c3, c4, c5, c6, c7, c8⟩ := hK.out Wb (Below.refl _ _)
  have KP : Hid (∀ W, Calls Tryd.prog 28 #[.agg #[.string i, .slice a l.length n, .string f]] W fun e w' => e = .returned (.bool (nop i f l.length)) ∧ Below W.heap.size W w') := fun W => noParts_any i f a l.length n W
  have KC : Hid (∀ W, Below Wb.heap.size Wb W → Calls Tryd.prog 30 #[.agg #[.string i, .slice a l.length n, .string f]] W fun e w' => e = .returned (.bool (noE l)) ∧ Below W.heap.size W w') := fun W hb => noEmpty_any i f l a n W hl ((h1.below hB.out).below hb)
  have hT' := hT.below hB.out
  have KU : Hid (Calls Tryd.prog 27 #[.string s] Wb fun e w' => e = .returned (.bool (utf s)) ∧ w' = Wb) := rIsUTF8_any s Wb hs hT'
  have KV : Hid (Calls Tryd.prog 27 #[.string r] Wb fun e w' => e = .returned (.bool (utf r)) ∧ w' = Wb) := rIsUTF8_any r Wb hr hT'
  have KW : Hid (∀ W, Calls Tryd.prog 29 #[.int .i64 0] W fun e w' => e = .returned (.bool false) ∧ w' = W) := fun W => valued_any 0 W
  have KH : Hid (∀ W, Calls Tryd.prog 11 #[.int .i64 0] W fun e w' => e = .returned (.bool true) ∧ w' = W) := fun W => rHolds_any 0 W
  clear p h1 hl hs hr hT hT'
  have T1 : True := trivial
  have T2 : True := trivial
  have T3 : True := trivial
  have T4 : True := trivial
  have T5 : True := trivial
  have T6 : True := trivial
  cases hu : utf s with
  | false =>
    have hR : Hid (sou 0 s v i f r l b = false) := by unfold Hid; simp [sou, hu]
    rw [hR.out]
    rw [hu] at KU
    go_enter Tryd.func22, Tryd.ntmps22
    go_upto_region 1 with fail
    clear hWb
    go_wp2_with (first | (clear T1; go_at_call 27; refine KU.out.mono ?_; rintro e u1 ⟨rfl, rfl⟩))
    all_goals go_ret
    all_goals exact ⟨rfl, hB.out⟩
  | true =>
    rw [hu] at KU
    cases hv : utf r with
    | false =>
      have hR : Hid (sou 0 s v i f r l b = false) := by unfold Hid; simp [sou, hv]
      rw [hR.out]
      rw [hv] at KV
      go_enter Tryd.func22, Tryd.ntmps22
      go_upto_region 1 with fail
      clear hWb
      go_wp2_with (first | (clear T1; go_at_call 27; refine KU.out.mono ?_; rintro e u1 ⟨rfl, rfl⟩) | (clear T2; go_at_call 27; refine KV.out.mono ?_; rintro e u2 ⟨rfl, rfl⟩))
      all_goals go_ret
      all_goals exact ⟨rfl, hB.out⟩
    | true =>
      rw [hv] at KV
      by_cases h_r : r.toList = []
      · have e_r : r.toList.isEmpty = true := by rw [h_r]; rfl
        cases b with
        | false =>
          cases h_p : nop i f l.length with
          | true =>
            rw [h_p] at KP
            by_cases h_v : v.toList = []
            · have e_v : v.toList.isEmpty = true := by rw [h_v]; rfl
              by_cases h_s : s.toList = []
              · have e_s : s.toList.isEmpty = true := by rw [h_s]; rfl
                have hZ : Hid (sou 0 s v i f r l false = true) := by
                  unfold Hid
                  simp [sou, lef, emp, hu, hv, h_r, h_p, h_v, h_s, nil_nop]
                rw [hZ.out]
                go_enter Tryd.func22, Tryd.ntmps22
                go_upto_region 1 with fail
                clear hWb
                go_wp2_with (first | (clear T1; go_at_call 27; refine KU.out.mono ?_; rintro e u1 ⟨rfl, rfl⟩) | (clear T2; go_at_call 27; refine KV.out.mono ?_; rintro e u2 ⟨rfl, rfl⟩) | (clear T3; go_at_call 28; refine (KP.out _).mono ?_; rintro e w1 ⟨rfl, hb1⟩; obtain ⟨d0, d1, d2, d3, d4, d5, d6, d7, d8⟩ := hK.out w1 hb1) | (clear T4; go_at_call 29; refine (KW.out _).mono ?_; rintro e u4 ⟨rfl, rfl⟩) | (clear T5; go_at_call 11; refine (KH.out _).mono ?_; rintro e u5 ⟨rfl, rfl⟩))
                all_goals go_ret
                all_goals exact ⟨rfl, hB.out.trans (hb1.mono hB.out.size)⟩
              · have e_s : s.toList.isEmpty = false := isE_false h_s
                have hZ : Hid (sou 0 s v i f r l false = false) := by
                  unfold Hid
                  simp [sou, lef, emp, hu, hv, h_r, h_p, h_v, h_s, nil_nop]
                rw [hZ.out]
                go_enter Tryd.func22, Tryd.ntmps22
                go_upto_region 1 with fail
                clear hWb
                go_wp2_with (first | (clear T1; go_at_call 27; refine KU.out.mono ?_; rintro e u1 ⟨rfl, rfl⟩) | (clear T2; go_at_call 27; refine KV.out.mono ?_; rintro e u2 ⟨rfl, rfl⟩) | (clear T3; go_at_call 28; refine (KP.out _).mono ?_; rintro e w1 ⟨rfl, hb1⟩; obtain ⟨d0, d1, d2, d3, d4, d5, d6, d7, d8⟩ := hK.out w1 hb1) | (clear T4; go_at_call 29; refine (KW.out _).mono ?_; rintro e u4 ⟨rfl, rfl⟩) | (clear T5; go_at_call 11; refine (KH.out _).mono ?_; rintro e u5 ⟨rfl, rfl⟩))
                all_goals go_ret
                all_goals exact ⟨rfl, hB.out.trans (hb1.mono hB.out.size)⟩
            · have e_v : v.toList.isEmpty = false := isE_false h_v
              have hZ : Hid (sou 0 s v i f r l false = false) := by
                unfold Hid
                simp [sou, lef, emp, hu, hv, h_r, h_p, h_v, nil_nop]
              rw [hZ.out]
              go_enter Tryd.func22, Tryd.ntmps22
              go_upto_region 1 with fail
              clear hWb
              go_wp2_with (first | (clear T1; go_at_call 27; refine KU.out.mono ?_; rintro e u1 ⟨rfl, rfl⟩) | (clear T2; go_at_call 27; refine KV.out.mono ?_; rintro e u2 ⟨rfl, rfl⟩) | (clear T3; go_at_call 28; refine (KP.out _).mono ?_; rintro e w1 ⟨rfl, hb1⟩; obtain ⟨d0, d1, d2, d3, d4, d5, d6, d7, d8⟩ := hK.out w1 hb1) | (clear T4; go_at_call 29; refine (KW.out _).mono ?_; rintro e u4 ⟨rfl, rfl⟩) | (clear T5; go_at_call 11; refine (KH.out _).mono ?_; rintro e u5 ⟨rfl, rfl⟩))
              all_goals go_ret
              all_goals exact ⟨rfl, hB.out.trans (hb1.mono hB.out.size)⟩
          | false =>
            rw [h_p] at KP
            have hZ : Hid (sou 0 s v i f r l false = false) := by
              unfold Hid
              simp [sou, lef, emp, hu, hv, h_r, h_p, nil_nop]
            rw [hZ.out]
            go_enter Tryd.func22, Tryd.ntmps22
            go_upto_region 1 with fail
            clear hWb
            go_wp2_with (first | (clear T1; go_at_call 27; refine KU.out.mono ?_; rintro e u1 ⟨rfl, rfl⟩) | (clear T2; go_at_call 27; refine KV.out.mono ?_; rintro e u2 ⟨rfl, rfl⟩) | (clear T3; go_at_call 28; refine (KP.out _).mono ?_; rintro e w1 ⟨rfl, hb1⟩; obtain ⟨d0, d1, d2, d3, d4, d5, d6, d7, d8⟩ := hK.out w1 hb1))
            all_goals go_ret
            all_goals exact ⟨rfl, hB.out.trans (hb1.mono hB.out.size)⟩
        | true =>
          have hZ : Hid (sou 0 s v i f r l true = false) := by
            unfold Hid
            simp [sou, lef, emp, hu, hv, h_r, nil_nop]
          rw [hZ.out]
          go_enter Tryd.func22, Tryd.ntmps22
          go_upto_region 1 with fail
          clear hWb
          go_wp2_with (first | (clear T1; go_at_call 27; refine KU.out.mono ?_; rintro e u1 ⟨rfl, rfl⟩) | (clear T2; go_at_call 27; refine KV.out.mono ?_; rintro e u2 ⟨rfl, rfl⟩))
          all_goals go_ret
          all_goals exact ⟨rfl, hB.out⟩
      · have e_r : r.toList.isEmpty = false := isE_false h_r
        have hZ : Hid (sou 0 s v i f r l b = false) := by
          unfold Hid
          simp [sou, lef, emp, hu, hv, h_r, nil_nop]
        rw [hZ.out]
        go_enter Tryd.func22, Tryd.ntmps22
        go_upto_region 1 with fail
        clear hWb
        go_wp2_with (first | (clear T1; go_at_call 27; refine KU.out.mono ?_; rintro e u1 ⟨rfl, rfl⟩) | (clear T2; go_at_call 27; refine KV.out.mono ?_; rintro e u2 ⟨rfl, rfl⟩))
        all_goals go_ret
        all_goals exact ⟨rfl, hB.out⟩
set_option maxRecDepth 100000 in
set_option maxHeartbeats 4000000 in
theorem fd1 (d : Int) (s v i : ByteArray) (a : Option Addr) (l : List (List UInt8)) (n : Nat) (f r : ByteArray) (b : Bool) (w : World) (hl : l.length ≤ 1048576) (hs : s.size ≤ 140737488355328) (hr : r.size ≤ 140737488355328) (h1 : Row w a l) (hT : RowTab w) :
    Calls Tryd.prog 22 #[.agg #[.int .i64 d, .int .i64 1, .string s, .string v, .string i, .slice a l.length n, .string f, .string r, .bool b]] w fun e w' => e = .returned (.bool (sou 1 s v i f r l b)) ∧ Below w.heap.size w w' := by
  obtain ⟨Wb, hWb⟩ : ∃ W, w.alloc (.cells #[.int .i64 d, .int .i64 1, .string s, .string v, .string i, .slice a l.length n, .string f, .string r, .bool b] 38) = W := ⟨_, rfl⟩
  have p : Box Wb w.heap.size 38 (nB d 1 s v i a l.length n f r b) := by rw [← hWb]; exact Box.new _ _ _
  have hB : Hid (Below w.heap.size w Wb) := by rw [← hWb]; exact (Below.refl _ _).alloc (Nat.le_refl _) _
  have hK : Hid (∀ W, Below Wb.heap.size Wb W → W.cell? ⟨w.heap.size, 0, none⟩ = some (.int .i64 d) ∧ W.cell? ⟨w.heap.size, 1, none⟩ = some (.int .i64 1) ∧ W.cell? ⟨w.heap.size, 2, none⟩ = some (.string s) ∧ W.cell? ⟨w.heap.size, 3, none⟩ = some (.string v) ∧ W.cell? ⟨w.heap.size, 4, none⟩ = some (.string i) ∧ W.cell? ⟨w.heap.size, 5, none⟩ = some (.slice a l.length n) ∧ W.cell? ⟨w.heap.size, 6, none⟩ = some (.string f) ∧ W.cell? ⟨w.heap.size, 7, none⟩ = some (.string r) ∧ W.cell? ⟨w.heap.size, 8, none⟩ = some (.bool b)) := fun W hb => box_nineB (p.below hb)
  obtain ⟨c0, c1, c2, c3, c4, c5, c6, c7, c8⟩ := hK.out Wb (Below.refl _ _)
  have KP : Hid (∀ W, Calls Tryd.prog 28 #[.agg #[.string i, .slice a l.length n, .string f]] W fun e w' => e = .returned (.bool (nop i f l.length)) ∧ Below W.heap.size W w') := fun W => noParts_any i f a l.length n W
  have KC : Hid (∀ W, Below Wb.heap.size Wb W → Calls Tryd.prog 30 #[.agg #[.string i, .slice a l.length n, .string f]] W fun e w' => e = .returned (.bool (noE l)) ∧ Below W.heap.size W w') := fun W hb => noEmpty_any i f l a n W hl ((h1.below hB.out).below hb)
  have hT' := hT.below hB.out
  have KU : Hid (Calls Tryd.prog 27 #[.string s] Wb fun e w' => e = .returned (.bool (utf s)) ∧ w' = Wb) := rIsUTF8_any s Wb hs hT'
  have KV : Hid (Calls Tryd.prog 27 #[.string r] Wb fun e w' => e = .returned (.bool (utf r)) ∧ w' = Wb) := rIsUTF8_any r Wb hr hT'
  have KW : Hid (∀ W, Calls Tryd.prog 29 #[.int .i64 1] W fun e w' => e = .returned (.bool false) ∧ w' = W) := fun W => valued_any 1 W
  have KH : Hid (∀ W, Calls Tryd.prog 11 #[.int .i64 1] W fun e w' => e = .returned (.bool true) ∧ w' = W) := fun W => rHolds_any 1 W
  clear p h1 hl hs hr hT hT'
  have T1 : True := trivial
  have T2 : True := trivial
  have T3 : True := trivial
  have T4 : True := trivial
  have T5 : True := trivial
  have T6 : True := trivial
  cases hu : utf s with
  | false =>
    have hR : Hid (sou 1 s v i f r l b = false) := by unfold Hid; simp [sou, hu]
    rw [hR.out]
    rw [hu] at KU
    go_enter Tryd.func22, Tryd.ntmps22
    go_upto_region 1 with fail
    clear hWb
    go_wp2_with (first | (clear T1; go_at_call 27; refine KU.out.mono ?_; rintro e u1 ⟨rfl, rfl⟩))
    all_goals go_ret
    all_goals exact ⟨rfl, hB.out⟩
  | true =>
    rw [hu] at KU
    cases hv : utf r with
    | false =>
      have hR : Hid (sou 1 s v i f r l b = false) := by unfold Hid; simp [sou, hv]
      rw [hR.out]
      rw [hv] at KV
      go_enter Tryd.func22, Tryd.ntmps22
      go_upto_region 1 with fail
      clear hWb
      go_wp2_with (first | (clear T1; go_at_call 27; refine KU.out.mono ?_; rintro e u1 ⟨rfl, rfl⟩) | (clear T2; go_at_call 27; refine KV.out.mono ?_; rintro e u2 ⟨rfl, rfl⟩))
      all_goals go_ret
      all_goals exact ⟨rfl, hB.out⟩
    | true =>
      rw [hv] at KV
      by_cases h_r : r.toList = []
      · have e_r : r.toList.isEmpty = true := by rw [h_r]; rfl
        cases b with
        | false =>
          cases h_p : nop i f l.length with
          | true =>
            rw [h_p] at KP
            by_cases h_v : v.toList = []
            · have e_v : v.toList.isEmpty = true := by rw [h_v]; rfl
              by_cases h_s : s.toList = []
              · have e_s : s.toList.isEmpty = true := by rw [h_s]; rfl
                have hZ : Hid (sou 1 s v i f r l false = true) := by
                  unfold Hid
                  simp [sou, lef, emp, hu, hv, h_r, h_p, h_v, h_s, nil_nop]
                rw [hZ.out]
                go_enter Tryd.func22, Tryd.ntmps22
                go_upto_region 1 with fail
                clear hWb
                go_wp2_with (first | (clear T1; go_at_call 27; refine KU.out.mono ?_; rintro e u1 ⟨rfl, rfl⟩) | (clear T2; go_at_call 27; refine KV.out.mono ?_; rintro e u2 ⟨rfl, rfl⟩) | (clear T3; go_at_call 28; refine (KP.out _).mono ?_; rintro e w1 ⟨rfl, hb1⟩; obtain ⟨d0, d1, d2, d3, d4, d5, d6, d7, d8⟩ := hK.out w1 hb1) | (clear T4; go_at_call 29; refine (KW.out _).mono ?_; rintro e u4 ⟨rfl, rfl⟩) | (clear T5; go_at_call 11; refine (KH.out _).mono ?_; rintro e u5 ⟨rfl, rfl⟩))
                all_goals go_ret
                all_goals exact ⟨rfl, hB.out.trans (hb1.mono hB.out.size)⟩
              · have e_s : s.toList.isEmpty = false := isE_false h_s
                have hZ : Hid (sou 1 s v i f r l false = false) := by
                  unfold Hid
                  simp [sou, lef, emp, hu, hv, h_r, h_p, h_v, h_s, nil_nop]
                rw [hZ.out]
                go_enter Tryd.func22, Tryd.ntmps22
                go_upto_region 1 with fail
                clear hWb
                go_wp2_with (first | (clear T1; go_at_call 27; refine KU.out.mono ?_; rintro e u1 ⟨rfl, rfl⟩) | (clear T2; go_at_call 27; refine KV.out.mono ?_; rintro e u2 ⟨rfl, rfl⟩) | (clear T3; go_at_call 28; refine (KP.out _).mono ?_; rintro e w1 ⟨rfl, hb1⟩; obtain ⟨d0, d1, d2, d3, d4, d5, d6, d7, d8⟩ := hK.out w1 hb1) | (clear T4; go_at_call 29; refine (KW.out _).mono ?_; rintro e u4 ⟨rfl, rfl⟩) | (clear T5; go_at_call 11; refine (KH.out _).mono ?_; rintro e u5 ⟨rfl, rfl⟩))
                all_goals go_ret
                all_goals exact ⟨rfl, hB.out.trans (hb1.mono hB.out.size)⟩
            · have e_v : v.toList.isEmpty = false := isE_false h_v
              have hZ : Hid (sou 1 s v i f r l false = false) := by
                unfold Hid
                simp [sou, lef, emp, hu, hv, h_r, h_p, h_v, nil_nop]
              rw [hZ.out]
              go_enter Tryd.func22, Tryd.ntmps22
              go_upto_region 1 with fail
              clear hWb
              go_wp2_with (first | (clear T1; go_at_call 27; refine KU.out.mono ?_; rintro e u1 ⟨rfl, rfl⟩) | (clear T2; go_at_call 27; refine KV.out.mono ?_; rintro e u2 ⟨rfl, rfl⟩) | (clear T3; go_at_call 28; refine (KP.out _).mono ?_; rintro e w1 ⟨rfl, hb1⟩; obtain ⟨d0, d1, d2, d3, d4, d5, d6, d7, d8⟩ := hK.out w1 hb1) | (clear T4; go_at_call 29; refine (KW.out _).mono ?_; rintro e u4 ⟨rfl, rfl⟩) | (clear T5; go_at_call 11; refine (KH.out _).mono ?_; rintro e u5 ⟨rfl, rfl⟩))
              all_goals go_ret
              all_goals exact ⟨rfl, hB.out.trans (hb1.mono hB.out.size)⟩
          | false =>
            rw [h_p] at KP
            have hZ : Hid (sou 1 s v i f r l false = false) := by
              unfold Hid
              simp [sou, lef, emp, hu, hv, h_r, h_p, nil_nop]
            rw [hZ.out]
            go_enter Tryd.func22, Tryd.ntmps22
            go_upto_region 1 with fail
            clear hWb
            go_wp2_with (first | (clear T1; go_at_call 27; refine KU.out.mono ?_; rintro e u1 ⟨rfl, rfl⟩) | (clear T2; go_at_call 27; refine KV.out.mono ?_; rintro e u2 ⟨rfl, rfl⟩) | (clear T3; go_at_call 28; refine (KP.out _).mono ?_; rintro e w1 ⟨rfl, hb1⟩; obtain ⟨d0, d1, d2, d3, d4, d5, d6, d7, d8⟩ := hK.out w1 hb1))
            all_goals go_ret
            all_goals exact ⟨rfl, hB.out.trans (hb1.mono hB.out.size)⟩
        | true =>
          have hZ : Hid (sou 1 s v i f r l true = false) := by
            unfold Hid
            simp [sou, lef, emp, hu, hv, h_r, nil_nop]
          rw [hZ.out]
          go_enter Tryd.func22, Tryd.ntmps22
          go_upto_region 1 with fail
          clear hWb
          go_wp2_with (first | (clear T1; go_at_call 27; refine KU.out.mono ?_; rintro e u1 ⟨rfl, rfl⟩) | (clear T2; go_at_call 27; refine KV.out.mono ?_; rintro e u2 ⟨rfl, rfl⟩))
          all_goals go_ret
          all_goals exact ⟨rfl, hB.out⟩
      · have e_r : r.toList.isEmpty = false := isE_false h_r
        have hZ : Hid (sou 1 s v i f r l b = false) := by
          unfold Hid
          simp [sou, lef, emp, hu, hv, h_r, nil_nop]
        rw [hZ.out]
        go_enter Tryd.func22, Tryd.ntmps22
        go_upto_region 1 with fail
        clear hWb
        go_wp2_with (first | (clear T1; go_at_call 27; refine KU.out.mono ?_; rintro e u1 ⟨rfl, rfl⟩) | (clear T2; go_at_call 27; refine KV.out.mono ?_; rintro e u2 ⟨rfl, rfl⟩))
        all_goals go_ret
        all_goals exact ⟨rfl, hB.out⟩
end Go.Proofs.YtofghgggllfafaaDoor
