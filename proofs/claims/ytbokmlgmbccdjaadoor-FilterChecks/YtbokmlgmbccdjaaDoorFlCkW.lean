import Derived.Test.YtbokmlgmbccdjaaDoorFlRC2
import Derived.Test.YtbokmlgmbccdjaaDoorFlChk
import Derived.Test.YtbokmlgmbccdjaaDoorFlDep
import Derived.Test.YtbokmlgmbccdjaaDoorFlCopy
import Derived.Test.YtbokmlgmbccdjaaDoorFlREq
namespace Go.Proofs.YtbokmlgmbccdjaaDoor
open Go.RowKit
open TextMath
set_option linter.unusedVariables false

theorem FRow.take {w : World} {a : Option Addr} {xs : List Nod} (h : FRow w a xs) (m : Nat) : FRow w a (xs.take m) := FRow.front (k := xs.drop m) (by rw [List.take_append_drop]; exact h)
theorem np_bnd {xs ys : List Nod} (h : ys.map np = xs.map np) {n m : Nat} (hx : ∀ x ∈ xs, x.l.length ≤ n ∧ x.desc.length ≤ m ∧ x.rule.length ≤ m) : ∀ y ∈ ys, y.l.length ≤ n ∧ y.desc.length ≤ m ∧ y.rule.length ≤ m := fun y hy => by
  have h1 : np y ∈ ys.map np := List.mem_map.2 ⟨y, hy, rfl⟩
  rw [h] at h1
  obtain ⟨x, hx1, hx2⟩ := List.mem_map.1 h1
  have := hx x hx1
  simp only [np, Prod.mk.injEq] at hx2
  obtain ⟨_, _, e3, _, _, e6, _, e8, _⟩ := hx2
  rw [← e3, ← e6, ← e8]
  exact this
theorem np_take {xs ys : List Nod} (h : ys.map np = xs.map np) (m : Nat) : (ys.take m).map np = (xs.take m).map np := by rw [List.map_take, List.map_take, h]
theorem npl {xs ys : List Nod} (h : ys.map np = xs.map np) : ys.length = xs.length := by simpa using congrArg List.length h
/-- The one filter that is checked at the end. -/
def oneN : Nod := ⟨1, 7, [99, 110], [], [], none, 0, [], [], [], false⟩
theorem one_chk : chkF [oneN] = (0, 0) := by
  have h1 : utf (S [99, 110]) = true := by decide
  have h2 : utf (S []) = true := by decide
  have h3 : (S []).toList = [] := toList_S []
  have h4 : (⟨#[]⟩ : ByteArray).toList = [] := toList_S []
  have hs : sndN oneN = true := by
    simp [sndN, sou, oneN, lef, emp, nop, h1, h2, h3, h4]
  have he : er [] oneN [] = 0 := by
    simp [er, fol, sec, hs]
    simp [oneN]
  simp [chkF, chkL, he]
theorem one_dpt : dpt [oneN] = 1 := by decide

set_option maxRecDepth 100000 in
set_option maxHeartbeats 1000000 in
theorem same_any (xs ys : List Nod) (a b : Option Addr) (c d : Nat) (w : World) (hn : xs.length ≤ 1099511627745) (hm : ys.length ≤ 1099511627745) (hlx : ∀ x ∈ xs, x.l.length ≤ 8796093021952) (hly : ∀ x ∈ ys, x.l.length ≤ 8796093021952) (h1 : FRow w a xs) (h2 : FRow w b ys) :
    Calls Tryd.prog 9 #[.slice a xs.length c, .slice b ys.length d] w fun e w' => e = .returned (.bool (fb xs ys)) ∧ Below w.heap.size w w' := by
  have hF : Hid (Calls Tryd.prog 14 #[.slice a xs.length c, .slice b ys.length d] w fun e w' => e = .returned (.bool (fb xs ys)) ∧ Below w.heap.size w w') := rEqual_any xs ys a b c d w hn hm hlx hly h1 h2
  clear h1 h2 hlx hly
  go_enter Tryd.func9, Tryd.ntmps9
  go_wp2_with (go_at_call 14; refine hF.out.mono ?_; rintro e w' ⟨rfl, hb⟩)
  go_ret
  exact ⟨rfl, hb⟩

theorem fRow_one {W : World} {g : Nat} {x : Nod} (h : Box W g 34 (nA x)) (hr : Row W x.a x.l) : FRow W (some ⟨g, 0, none⟩) [x] := fun i hi => by
  have : i = 0 := by simpa using hi
  subst this
  refine ⟨⟨g, 0, rfl, fun j hj => ?_⟩, hr⟩
  obtain ⟨h0, h1, h2, h3, h4, h5, h6, h7, h8⟩ := box_nine h
  match j, hj with
  | 0, _ => simpa [nV] using h0
  | 1, _ => simpa [nV] using h1
  | 2, _ => simpa [nV] using h2
  | 3, _ => simpa [nV] using h3
  | 4, _ => simpa [nV] using h4
  | 5, _ => simpa [nV] using h5
  | 6, _ => simpa [nV] using h6
  | 7, _ => simpa [nV] using h7
  | 8, _ => simpa [nV] using h8
set_option maxRecDepth 100000 in
set_option maxHeartbeats 8000000 in
theorem filterChecks_walk (xs : List Nod) (a : Option Addr) (c : Nat) (w : World) (hn : xs.length ≤ 1099511627744) (hl : ∀ x ∈ xs, x.l.length ≤ 8796093021952 ∧ x.desc.length ≤ 140737488351232 ∧ x.rule.length ≤ 140737488351232) (hcap : xs.length ≤ c) (hF : FRow w a xs) (hT : RowTab w) :
    Calls Tryd.prog 3 #[.slice a xs.length c] w fun e w' => e = .returned (.bool true) ∧ Below w.heap.size w w' := by
  have KC : Hid (Calls Tryd.prog 4 #[.slice a xs.length c] w fun e w' => (∃ v zs, e = .returned v ∧ OwnF w' w.heap.size v zs ∧ zs.map np = xs.map np) ∧ Below w.heap.size w w') := copied_any xs a c w hn (fun x hx => (hl x hx).1) hF
  have K1 : Hid (∀ W, Below w.heap.size w W → ∀ m, m ≤ xs.length → Calls Tryd.prog 5 #[.slice a m c] W fun e w' => e = .returned (.tuple #[.int .i64 (chkF (xs.take m)).1, .int .i64 ((chkF (xs.take m)).2 : Nat)]) ∧ Below W.heap.size W w') := fun W hW m hm => by
    have h := fCheck_any (xs.take m) a c W ((hF.below hW).take m) (by rw [List.length_take]; omega) (fun x hx => hl x (List.mem_of_mem_take hx))
    rw [List.length_take, Nat.min_eq_left hm] at h
    exact h
  have K2 : Hid (∀ W, Below w.heap.size w W → ∀ m, m ≤ xs.length → Calls Tryd.prog 7 #[.slice a m c] W fun e w' => e = .returned (.int .i64 (dpt (xs.take m))) ∧ Below W.heap.size W w') := fun W hW m hm => by
    have h := depth_any (xs.take m) a c W (by rw [List.length_take]; omega) ((hF.below hW).take m)
    rw [List.length_take, Nat.min_eq_left hm] at h
    exact h
  have H : Hid (FRow w a xs ∧ (∀ x ∈ xs, x.l.length ≤ 8796093021952 ∧ x.desc.length ≤ 140737488351232 ∧ x.rule.length ≤ 140737488351232) ∧ RowTab w) := ⟨hF, hl, hT⟩
  clear hF hl hT
  go_enter Tryd.func3, Tryd.ntmps3
  go_upto_region 2 with (go_at_call 4; refine KC.out.mono ?_; rintro e w1 ⟨⟨v1, ys, rfl, hO, hp⟩, hb1⟩; obtain ⟨a1, c1, rfl, hc1, R1⟩ := hO.row)
  have hyl := npl hp
  rw [hyl] at hc1
  rw [hyl]
  have R3 : Hid (∀ W, Below w1.heap.size w1 W → ∀ m, m ≤ xs.length → Calls Tryd.prog 6 #[.slice a1 m c1] W fun e w' => e = .returned (.tuple #[.int .i64 (chkF (xs.take m)).1, .int .i64 ((chkF (xs.take m)).2 : Nat)]) ∧ Below W.heap.size W w') := fun W hW m hm => by
    have h := rfCheck_any (ys.take m) a1 c1 W ((R1.below hW).take m) (by rw [List.length_take]; omega) (fun x hx => np_bnd hp H.out.2.1 x (List.mem_of_mem_take hx)) ((H.out.2.2.below hb1).below hW)
    rw [List.length_take, hyl, Nat.min_eq_left hm] at h
    unfold chkU at h
    rw [chkF_np (np_take hp m)] at h
    exact h
  have R4 : Hid (∀ W, Below w1.heap.size w1 W → ∀ m, m ≤ xs.length → Calls Tryd.prog 8 #[.slice a1 m c1] W fun e w' => e = .returned (.int .i64 (dpt (xs.take m))) ∧ w' = W) := fun W hW m hm => by
    have h := rDepth_any (ys.take m) a1 c1 W (by rw [List.length_take]; omega) ((R1.below hW).take m)
    rw [List.length_take, hyl, Nat.min_eq_left hm, dpt_np (np_take hp m)] at h
    exact h
  have R5 : Hid (∀ W, Below w1.heap.size w1 W → Calls Tryd.prog 9 #[.slice a xs.length c, .slice a1 xs.length c1] W fun e w' => e = .returned (.bool true) ∧ Below W.heap.size W w') := fun W hW => by
    have h := same_any xs ys a a1 c c1 W (by omega) (by rw [hyl]; omega) (fun x hx => (H.out.2.1 x hx).1) (fun x hx => (np_bnd hp H.out.2.1 x hx).1) ((H.out.1.below hb1).below hW) (R1.below hW)
    rw [hyl, fb_yes hp.symm] at h
    exact h
  have hb1' : Hid (Below w.heap.size w w1) := hb1
  clear hO hp hb1 R1 hyl KC
  go_wp2_with fail
  go_loopw [4] (fun iv wr => ∃ m : Nat, m ≤ xs.length + 1 ∧ iv = .int .i64 (m : Int) ∧ Hid (Below w1.heap.size w1 wr)) (fun iv _ => xs.length + 1 - (intOf iv).toNat)
  case atStart => exact ⟨0, Nat.zero_le _, rfl, Below.refl _ _⟩
  case round =>
    obtain ⟨m, hm, rfl, hI⟩ := hrel
    by_cases hlt : m ≤ xs.length
    · have i0 : (0 : Int) ≤ (m : Int) := Int.natCast_nonneg _
      have i1 : (m : Int) ≤ (xs.length : Int) := Int.ofNat_le.2 hlt
      have i2 : m ≤ c := Nat.le_trans hlt hcap
      have i3 : m ≤ c1 := Nat.le_trans hlt hc1
      have i4 : (m : Int) ≤ (c : Int) := Int.ofNat_le.2 i2
      have i5 : (m : Int) ≤ (c1 : Int) := Int.ofNat_le.2 i3
      have B0 : Below w1.heap.size w1 wr := hI.out
      have L1 := fun W hW => K1.out W hW m hlt
      have L2 : Hid (∀ W, Below w1.heap.size w1 W → Calls Tryd.prog 7 #[.slice a m c] W fun e w' => e = .returned (.int .i64 (dpt (xs.take m))) ∧ Below W.heap.size W w') := fun W hW => K2.out W (hb1'.out.trans (hW.mono hb1'.out.size)) m hlt
      have L3 := fun W hW => R3.out W hW m hlt
      have L4 : Hid (∀ W, Below w1.heap.size w1 W → Calls Tryd.prog 8 #[.slice a1 m c1] W fun e w' => e = .returned (.int .i64 (dpt (xs.take m))) ∧ w' = W) := fun W hW => R4.out W hW m hlt
      generalize (chkF (xs.take m)).1 = E at *
      generalize (((chkF (xs.take m)).2 : Nat) : Int) = P at *
      generalize dpt (xs.take m) = D at *
      have L1' : Hid (∀ W, Below w1.heap.size w1 W → Calls Tryd.prog 5 #[.slice a m c] W fun e w' => e = .returned (.tuple #[.int .i64 E, .int .i64 P]) ∧ Below W.heap.size W w') := fun W hW => L1 W (hb1'.out.trans (hW.mono hb1'.out.size))
      have L3' : Hid (∀ W, Below w1.heap.size w1 W → Calls Tryd.prog 6 #[.slice a1 m c1] W fun e w' => e = .returned (.tuple #[.int .i64 E, .int .i64 P]) ∧ Below W.heap.size W w') := L3
      have hlt' : Hid (m ≤ xs.length ∧ xs.length ≤ 1099511627744) := ⟨hlt, hn⟩
      clear L1 L3 hlt
      go_upto_region 7 with (first | (go_at_call 5; refine (L1'.out _ B0).mono ?_; rintro e w2 ⟨rfl, hb2⟩; have B2 := B0.trans (hb2.mono B0.size)) | (go_at_call 6; refine (L3'.out _ B2).mono ?_; rintro e w3 ⟨rfl, hb3⟩; have B3 := B2.trans (hb3.mono B2.size)))
      clear hb2 hb3 B0 B2 L1' L3'
      have B3' : Hid (Below w1.heap.size w1 w3) := B3
      go_region_held3 (fun W => Below w1.heap.size w1 W)
        (first | exact B3.drew | exact HB4)
        (first | (go_at_call 7; refine (L2.out _ B3.drew).mono ?_; rintro e w4 ⟨rfl, hb4⟩; have HB4 : Below w1.heap.size w1 w4 := B3.drew.trans (hb4.mono B3.drew.size)) | (go_at_call 8; refine (L4.out _ HB4).mono ?_; rintro e w5 ⟨rfl, rfl⟩) | (go_at_call 8; refine (L4.out _ B3.drew).mono ?_; rintro e w5 ⟨rfl, rfl⟩))
      all_goals (
        rename_i hHeld
        have hJ : Hid (Below w1.heap.size w1 _) := hHeld
        clear hHeld B3
        go_wp2_with fail
        go_roundw
        case rel => exact ⟨m + 1, by have := hlt'.out; omega, by simp, hJ.out⟩
        case measure => have := hlt'.out; simp [intOf]; omega)
    · have k1 : ¬ (m : Int) ≤ (xs.length : Int) := by omega
      have k2 : (xs.length : Int) < (m : Int) := by omega
      obtain ⟨W, hW⟩ : ∃ W, wr.alloc (.cells #[.int .i64 1, .int .i64 7, .string ⟨#[99, 110]⟩, .string ⟨#[]⟩, .string ⟨#[]⟩, .slice none 0 0, .string ⟨#[]⟩, .string ⟨#[]⟩, .bool false] 34) = W := ⟨_, rfl⟩
      have pW : Box W wr.heap.size 34 (nA oneN) := by rw [← hW]; exact Box.new _ _ _
      have hBW : Below w1.heap.size w1 W := by rw [← hW]; exact hI.out.alloc hI.out.size _
      have KO : Hid (Calls Tryd.prog 5 #[.slice (some ⟨wr.heap.size, 0, none⟩) 1 1] W fun e w' => e = .returned (.tuple #[.int .i64 0, .int .i64 0]) ∧ Below W.heap.size W w') := by
        have h := fCheck_any [oneN] (some ⟨wr.heap.size, 0, none⟩) 1 W (fRow_one pW (Row.nil _ _)) (by decide) (fun x hx => by
          have : x = oneN := by simpa using hx
          subst this
          decide)
        unfold chkT at h
        rw [one_chk] at h
        exact h
      have KP : Hid (∀ V, Below W.heap.size W V → Calls Tryd.prog 7 #[.slice (some ⟨wr.heap.size, 0, none⟩) 1 1] V fun e w' => e = .returned (.int .i64 1) ∧ Below V.heap.size V w') := fun V hV => by
        have h := depth_any [oneN] (some ⟨wr.heap.size, 0, none⟩) 1 V (by decide) ((fRow_one pW (Row.nil _ _)).below hV)
        rw [one_dpt] at h
        exact h
      have hBW' : Hid (Below w1.heap.size w1 W) := hBW
      clear pW hBW hI K1 K2 R3 R4 H
      have T1 : True := trivial
      have T2 : True := trivial
      have T3 : True := trivial
      go_wp2_with (first
        | (clear T1; go_at_call 5; refine KO.out.mono ?_; rintro e u1 ⟨rfl, hu1⟩)
        | (clear T2; go_at_call 7; refine (KP.out _ hu1).mono ?_; rintro e u2 ⟨rfl, hu2⟩; have HU : Below w1.heap.size w1 u2 := hBW'.out.trans ((hu1.trans (hu2.mono hu1.size)).mono hBW'.out.size))
        | (clear T3; go_at_call 9; refine (R5.out _ HU).mono ?_; rintro e u3 ⟨rfl, hu3⟩))
      go_ret
      exact ⟨rfl, hb1'.out.trans ((HU.trans (hu3.mono HU.size)).mono hb1'.out.size)⟩
end Go.Proofs.YtbokmlgmbccdjaaDoor
