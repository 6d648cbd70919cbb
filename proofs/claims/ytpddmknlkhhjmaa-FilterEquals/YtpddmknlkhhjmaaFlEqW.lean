import Derived.Test.YtpddmknlkhhjmaaFlREq
import Derived.Test.YtpddmknlkhhjmaaFlEqF
import Derived.Test.YtpddmknlkhhjmaaFlCopy
namespace Go.Proofs.Ytpddmknlkhhjmaa
open Go.RowKit
set_option linter.unusedVariables false

theorem np_bound {xs ys : List Nod} (h : ys.map np = xs.map np) {n : Nat} (hx : ∀ x ∈ xs, x.l.length ≤ n) : ∀ y ∈ ys, y.l.length ≤ n := fun y hy => by
  have h1 : np y ∈ ys.map np := List.mem_map.2 ⟨y, hy, rfl⟩
  rw [h] at h1
  obtain ⟨x, hx1, hx2⟩ := List.mem_map.1 h1
  have : x.l = y.l := by simp only [np, Prod.mk.injEq] at hx2; exact hx2.2.2.2.2.2.1
  rw [← this]
  exact hx x hx1
theorem np_len {xs ys : List Nod} (h : ys.map np = xs.map np) : ys.length = xs.length := by simpa using congrArg List.length h
def zN : Nod := ⟨0, 0, [], [], [], none, 0, [], [], [], false⟩

theorem last_ready {w w8 w9 wX : World} {v : Value} {xs zs : List Nod} (hw : w9.alloc (.cells #[.int .i64 0, .int .i64 0, .string ⟨#[]⟩, .string ⟨#[]⟩, .string ⟨#[]⟩, .slice none 0 0, .string ⟨#[]⟩, .string ⟨#[]⟩, .bool false] 31) = wX) (hO : OwnF w9 w8.heap.size v zs) (hp : zs.map np = xs.map np) (hn : xs.length ≤ 1099511627744) (hB : Below w.heap.size w w8) (hb : Below w8.heap.size w8 w9) :
    Box wX w9.heap.size 31 (nA zN) ∧ OwnF wX w8.heap.size v zs ∧ Below w.heap.size w wX ∧ zs.length ≤ 1099511627775 ∧ w8.heap.size ≤ wX.heap.size := by
  have hbX : Below w9.heap.size w9 wX := by rw [← hw]; exact (Below.refl _ _).alloc (Nat.le_refl _) _
  have h9 := hb.size
  have hX := hbX.size
  refine ⟨by rw [← hw]; exact Box.new _ _ _, hO.below hbX, (hB.trans (hb.mono hB.size)).trans (hbX.mono (by have := hB.size; omega)), by rw [np_len hp]; omega, by omega⟩
theorem last_row {w w' : World} {B g cap : Nat} {v : Value} {L : List Nod} (h : OwnF w B v L) (h1 : OwnN w' B (.slice (some ⟨g, 0, none⟩) (L.length + 1) cap) (L ++ [zN])) (h2 : ∀ b, b < w.heap.size → v.ownBlock ≠ some b → w'.heap[b]? = w.heap[b]?) : FRow w' (some ⟨g, 0, none⟩) (L ++ [zN]) := by
  obtain ⟨a, c, e, _, hr⟩ := (ownF_push (y := zN) h (ownS_nil _ _) h1 h2).row
  injection e with e
  rw [e]
  exact hr

set_option maxRecDepth 100000 in
set_option maxHeartbeats 4000000 in
theorem filterEquals_walk (xs ys : List Nod) (a b : Option Addr) (c d : Nat) (w : World) (hn : xs.length ≤ 1099511627744) (hm : ys.length ≤ 1099511627744) (hlx : ∀ x ∈ xs, x.l.length ≤ 8796093021952) (hly : ∀ x ∈ ys, x.l.length ≤ 8796093021952) (h1 : FRow w a xs) (h2 : FRow w b ys) :
    Calls Try.prog 3 #[.slice a xs.length c, .slice b ys.length d] w fun e w' => e = .returned (.bool true) ∧ Below w.heap.size w w' := by
  obtain ⟨t, ht⟩ : ∃ t, fb xs ys = t := ⟨_, rfl⟩
  have P1 : Hid (∀ W, Below w.heap.size w W → Calls Try.prog 4 #[.slice a xs.length c, .slice b ys.length d] W fun e w' => e = .returned (.bool t) ∧ Below W.heap.size W w') := fun W hb => by
    have := equal_any xs ys a b c d W (by omega) (by omega) hlx hly (h1.below hb) (h2.below hb)
    rw [ht] at this
    exact this
  have P2 : Hid (∀ W, Below w.heap.size w W → Calls Try.prog 4 #[.slice b ys.length d, .slice a xs.length c] W fun e w' => e = .returned (.bool t) ∧ Below W.heap.size W w') := fun W hb => by
    have := equal_any ys xs b a d c W (by omega) (by omega) hly hlx (h2.below hb) (h1.below hb)
    rw [fb_sym, ht] at this
    exact this
  have P3 : Hid (∀ W, Below w.heap.size w W → Calls Try.prog 5 #[.slice a xs.length c, .slice b ys.length d] W fun e w' => e = .returned (.bool t) ∧ Below W.heap.size W w') := fun W hb => by
    have := rEqual_any xs ys a b c d W (by omega) (by omega) hlx hly (h1.below hb) (h2.below hb)
    rw [ht] at this
    exact this
  have C1 : Hid (∀ W, Below w.heap.size w W → Calls Try.prog 6 #[.slice a xs.length c] W fun e w' => (∃ v zs, e = .returned v ∧ OwnF w' W.heap.size v zs ∧ zs.map np = xs.map np) ∧ Below W.heap.size W w') := fun W hb => copied_any xs a c W hn hlx (h1.below hb)
  have C2 : Hid (∀ W, Below w.heap.size w W → Calls Try.prog 6 #[.slice b ys.length d] W fun e w' => (∃ v zs, e = .returned v ∧ OwnF w' W.heap.size v zs ∧ zs.map np = ys.map np) ∧ Below W.heap.size W w') := fun W hb => copied_any ys b d W hm hly (h2.below hb)
  have E1 : Hid (∀ W zs a' c', Below w.heap.size w W → zs.map np = xs.map np → FRow W a' zs → Calls Try.prog 4 #[.slice a xs.length c, .slice a' zs.length c'] W fun e w' => e = .returned (.bool true) ∧ Below W.heap.size W w') := fun W zs a' c' hb he hr => by
    have := equal_any xs zs a a' c c' W (by omega) (by rw [np_len he]; omega) hlx (np_bound he hlx) (h1.below hb) hr
    rw [fb_yes he.symm] at this
    exact this
  have E2 : Hid (∀ W zs a' c', Below w.heap.size w W → zs.map np = ys.map np → FRow W a' zs → Calls Try.prog 4 #[.slice a' zs.length c', .slice b ys.length d] W fun e w' => e = .returned (.bool true) ∧ Below W.heap.size W w') := fun W zs a' c' hb he hr => by
    have := equal_any zs ys a' b c' d W (by rw [np_len he]; omega) (by omega) (np_bound he hly) hly hr (h2.below hb)
    rw [fb_yes he] at this
    exact this
  have E3 : Hid (∀ W zs a' c', Below w.heap.size w W → zs.map np = xs.map np → FRow W a' (zs ++ [zN]) → Calls Try.prog 4 #[.slice a xs.length c, .slice a' (zs.length + 1) c'] W fun e w' => e = .returned (.bool false) ∧ Below W.heap.size W w') := fun W zs a' c' hb he hr => by
    have hl := np_len he
    have hz : ∀ y ∈ zs ++ [zN], y.l.length ≤ 8796093021952 := fun y hy => by
      rcases List.mem_append.1 hy with hy | hy
      · exact np_bound he hlx y hy
      · have : y = zN := by simpa using hy
        subst this
        exact Nat.zero_le _
    have := equal_any xs (zs ++ [zN]) a a' c c' W (by omega) (by rw [List.length_append, hl]; simp; omega) hlx hz (h1.below hb) hr
    rw [fb_len (by rw [List.length_append, hl]; simp), List.length_append] at this
    exact this
  have T1 : True := trivial
  have T2 : True := trivial
  have T3 : True := trivial
  have T4 : True := trivial
  have T5 : True := trivial
  have T6 : True := trivial
  have T7 : True := trivial
  have T8 : True := trivial
  have T9 : True := trivial
  have T10 : True := trivial
  have T11 : True := trivial
  have T12 : True := trivial
  have B0 : Below w.heap.size w w := Below.refl _ _
  have hnn : Hid (xs.length ≤ 1099511627744) := hn
  clear hn hm hlx hly h1 h2 ht
  go_enter Try.func3, Try.ntmps3
  cases t with
  | false =>
    go_upto_region 3 with (first
      | (clear T1; go_at_call 4; refine (P1.out _ B0).mono ?_; rintro e w1 ⟨rfl, hb1⟩; have B1 := B0.trans (hb1.mono B0.size); clear hb1)
      | (clear T2; go_at_call 5; refine (P3.out _ B1).mono ?_; rintro e w2 ⟨rfl, hb2⟩; have B2 := B1.trans (hb2.mono B1.size); clear hb2)
      | (clear T3; go_at_call 4; refine (P2.out _ B2).mono ?_; rintro e w3 ⟨rfl, hb3⟩; have B3 := B2.trans (hb3.mono B2.size); clear hb3)
      | (clear T4; go_at_call 5; refine (P3.out _ B3).mono ?_; rintro e w4 ⟨rfl, hb4⟩; have B4 := B3.trans (hb4.mono B3.size); clear hb4))
    clear B0 B1 B2 B3
    go_wp2_with (first
      | (clear T5; go_at_call 6; refine (C1.out _ B4).mono ?_; rintro e w5 ⟨⟨v5, z5, rfl, hO5, hp5⟩, hb5⟩; obtain ⟨a5, c5, rfl, _, R5⟩ := hO5.row; have B5 := B4.trans (hb5.mono B4.size); clear hb5 hO5)
      | (clear T6; go_at_call 4; refine (E1.out _ z5 a5 c5 B5 hp5 R5).mono ?_; rintro e w6 ⟨rfl, hb6⟩; have B6 := B5.trans (hb6.mono B5.size); clear hb6 R5)
      | (clear T7; go_at_call 6; refine (C2.out _ B6).mono ?_; rintro e w7 ⟨⟨v7, z7, rfl, hO7, hp7⟩, hb7⟩; obtain ⟨a7, c7, rfl, _, R7⟩ := hO7.row; have B7 := B6.trans (hb7.mono B6.size); clear hb7 hO7)
      | (clear T8; go_at_call 4; refine (E2.out _ z7 a7 c7 B7 hp7 R7).mono ?_; rintro e w8 ⟨rfl, hb8⟩; have B8 := B7.trans (hb8.mono B7.size); clear hb8 R7)
      | (clear T9; go_at_call 6; refine (C1.out _ B8).mono ?_; rintro e w9 ⟨⟨v9, z9, rfl, hO9, hp9⟩, hb9⟩; obtain ⟨a9, c9, rfl, _⟩ := hO9.row; have B9 := B8.trans (hb9.mono B8.size); obtain ⟨wX, hwX⟩ : ∃ W, w9.alloc (.cells #[.int .i64 0, .int .i64 0, .string ⟨#[]⟩, .string ⟨#[]⟩, .string ⟨#[]⟩, .slice none 0 0, .string ⟨#[]⟩, .string ⟨#[]⟩, .bool false] 31) = W := ⟨_, rfl⟩; obtain ⟨bX, oX, BX, lX, sX⟩ := last_ready hwX hO9 hp9 hnn.out B8 hb9; clear hb9)
      | (clear T10; at_builtin; refine push_nod_if _ rfl _ _ rfl w8.heap.size _ z9 zN w9.heap.size rfl rfl oX.1 bX sX lX ?_; intro g' cap' wY hY1 hY2 hY3; have RY := last_row oX hY1 hY2; have BY : Below w.heap.size w wY := BX.trans (hY3.mono B8.size); clear hwX)
      | (clear T11; go_at_call 4; refine (E3.out _ z9 _ _ BY hp9 RY).mono ?_; rintro e wZ ⟨rfl, hbZ⟩; have BZ := BY.trans (hbZ.mono BY.size)))
    go_ret
    exact ⟨rfl, BZ⟩
  | true =>
    go_upto_region 3 with (first
      | (clear T1; go_at_call 4; refine (P1.out _ B0).mono ?_; rintro e w1 ⟨rfl, hb1⟩; have B1 := B0.trans (hb1.mono B0.size); clear hb1)
      | (clear T2; go_at_call 5; refine (P3.out _ B1).mono ?_; rintro e w2 ⟨rfl, hb2⟩; have B2 := B1.trans (hb2.mono B1.size); clear hb2)
      | (clear T3; go_at_call 4; refine (P2.out _ B2).mono ?_; rintro e w3 ⟨rfl, hb3⟩; have B3 := B2.trans (hb3.mono B2.size); clear hb3)
      | (clear T4; go_at_call 5; refine (P3.out _ B3).mono ?_; rintro e w4 ⟨rfl, hb4⟩; have B4 := B3.trans (hb4.mono B3.size); clear hb4))
    clear B0 B1 B2 B3
    go_wp2_with (first
      | (clear T5; go_at_call 6; refine (C1.out _ B4).mono ?_; rintro e w5 ⟨⟨v5, z5, rfl, hO5, hp5⟩, hb5⟩; obtain ⟨a5, c5, rfl, _, R5⟩ := hO5.row; have B5 := B4.trans (hb5.mono B4.size); clear hb5 hO5)
      | (clear T6; go_at_call 4; refine (E1.out _ z5 a5 c5 B5 hp5 R5).mono ?_; rintro e w6 ⟨rfl, hb6⟩; have B6 := B5.trans (hb6.mono B5.size); clear hb6 R5)
      | (clear T7; go_at_call 6; refine (C2.out _ B6).mono ?_; rintro e w7 ⟨⟨v7, z7, rfl, hO7, hp7⟩, hb7⟩; obtain ⟨a7, c7, rfl, _, R7⟩ := hO7.row; have B7 := B6.trans (hb7.mono B6.size); clear hb7 hO7)
      | (clear T8; go_at_call 4; refine (E2.out _ z7 a7 c7 B7 hp7 R7).mono ?_; rintro e w8 ⟨rfl, hb8⟩; have B8 := B7.trans (hb8.mono B7.size); clear hb8 R7)
      | (clear T9; go_at_call 6; refine (C1.out _ B8).mono ?_; rintro e w9 ⟨⟨v9, z9, rfl, hO9, hp9⟩, hb9⟩; obtain ⟨a9, c9, rfl, _⟩ := hO9.row; have B9 := B8.trans (hb9.mono B8.size); obtain ⟨wX, hwX⟩ : ∃ W, w9.alloc (.cells #[.int .i64 0, .int .i64 0, .string ⟨#[]⟩, .string ⟨#[]⟩, .string ⟨#[]⟩, .slice none 0 0, .string ⟨#[]⟩, .string ⟨#[]⟩, .bool false] 31) = W := ⟨_, rfl⟩; obtain ⟨bX, oX, BX, lX, sX⟩ := last_ready hwX hO9 hp9 hnn.out B8 hb9; clear hb9)
      | (clear T10; at_builtin; refine push_nod_if _ rfl _ _ rfl w8.heap.size _ z9 zN w9.heap.size rfl rfl oX.1 bX sX lX ?_; intro g' cap' wY hY1 hY2 hY3; have RY := last_row oX hY1 hY2; have BY : Below w.heap.size w wY := BX.trans (hY3.mono B8.size); clear hwX)
      | (clear T11; go_at_call 4; refine (E3.out _ z9 _ _ BY hp9 RY).mono ?_; rintro e wZ ⟨rfl, hbZ⟩; have BZ := BY.trans (hbZ.mono BY.size)))
    go_ret
    exact ⟨rfl, BZ⟩
end Go.Proofs.Ytpddmknlkhhjmaa
