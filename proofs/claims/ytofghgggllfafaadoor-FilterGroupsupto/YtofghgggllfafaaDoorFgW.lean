import Derived.Test.YtofghgggllfafaaDoorFgPg
import Derived.Test.YtofghgggllfafaaDoorFgSp
namespace Go.Proofs.YtofghgggllfafaaDoor
open Go.RowKit
set_option linter.unusedVariables false

theorem frow_len {w : World} {a a' : Option Addr} {n n' c c' : Nat} (h : Value.slice a n c = .slice a' n' c') : a = a' ∧ n = n' ∧ c = c' := by injection h with h1 h2 h3; exact ⟨h1, h2, h3⟩
/-- A copy, for reading. -/
theorem copiedR_any (xs : List Nod) (a : Option Addr) (c : Nat) (w : World) (hn : xs.length ≤ 1048576) (hl : ∀ x ∈ xs, x.l.length ≤ 1048576) (h : FRow w a xs) :
    Calls Tryd.prog 4 #[.slice a xs.length c] w fun e w' => (∃ a' c' ys, e = .returned (.slice a' xs.length c') ∧ FRow w' a' ys ∧ ys.map np = xs.map np) ∧ Below w.heap.size w w' := by
  refine (copied_any xs a c w hn hl h).mono fun e w' => ?_
  rintro ⟨⟨v, ys, rfl, hO, hp⟩, hb⟩
  obtain ⟨a', c', rfl, _, hr⟩ := hO.row
  have hlen : ys.length = xs.length := by simpa using congrArg List.length hp
  exact ⟨⟨a', c', ys, by rw [hlen], hr, hp⟩, hb⟩
theorem roomyR_any (xs : List Nod) (a : Option Addr) (c : Nat) (w : World) (hn : xs.length ≤ 1048576) (hl : ∀ x ∈ xs, x.l.length ≤ 1048576) (h : FRow w a xs) :
    Calls Tryd.prog 5 #[.slice a xs.length c] w fun e w' => (∃ g cap ys, e = .returned (.slice (some ⟨g, 0, none⟩) xs.length cap) ∧ MkG 9 nV nT zNo w' (some ⟨g, 0, none⟩) cap ys ∧ ys.map np = xs.map np) ∧ Below w.heap.size w w' := by
  refine (roomyF_any xs a c w hn hl h).mono fun e w' => ?_
  rintro ⟨⟨g, cap, ys, rfl, hG, hp⟩, hb⟩
  exact ⟨⟨g, cap, ys, rfl, hG _ (Agr.refl _ _), hp⟩, hb⟩
theorem map_bnd {xs ys : List Nod} (h : ys.map np = xs.map np) (hx : ∀ x ∈ xs, x.l.length ≤ 1048576 ∧ x.desc.length ≤ 1048576 ∧ x.rule.length ≤ 1048576) : ∀ y ∈ ys, y.l.length ≤ 1048576 ∧ y.desc.length ≤ 1048576 ∧ y.rule.length ≤ 1048576 := fun y hy => by
  have h1 : np y ∈ ys.map np := List.mem_map.2 ⟨y, hy, rfl⟩
  rw [h] at h1
  obtain ⟨x, hx1, hx2⟩ := List.mem_map.1 h1
  have := hx x hx1
  simp only [np, Prod.mk.injEq] at hx2
  obtain ⟨_, _, e3, _, _, e6, _, e8, _⟩ := hx2
  rw [← e3, ← e6, ← e8]
  exact this
theorem rdF3 {w : World} {g : Nat} {a0 a1 a2 : Option Addr} {n0 n1 n2 c0 c1 c2 : Nat} {y0 y1 y2 : List Nod} (hb : Box w g 23 #[.slice a0 n0 c0, .slice a1 n1 c1, .slice a2 n2 c2]) (e0 : n0 = y0.length) (e1 : n1 = y1.length) (e2 : n2 = y2.length) (h0 : FRow w a0 y0) (h1 : FRow w a1 y1) (h2 : FRow w a2 y2) : RdF w (some ⟨g, 0, none⟩) [⟨a0, c0, y0⟩, ⟨a1, c1, y1⟩, ⟨a2, c2, y2⟩] := by
  subst e0 e1 e2
  refine ⟨fun i hi => ⟨g, 0, rfl, fun j hj => ?_⟩, fun f hf => ?_⟩
  · have hj0 : j = 0 := by omega
    subst hj0
    match i, hi with
    | 0, _ => exact (hb.cell 0 (by simp)).1
    | 1, _ => exact (hb.cell 1 (by simp)).1
    | 2, _ => exact (hb.cell 2 (by simp)).1
  · simp only [List.mem_cons, List.mem_nil_iff, or_false] at hf
    rcases hf with rfl | rfl | rfl
    · exact h0
    · exact h1
    · exact h2
theorem grp_lift {f : FuncId} {op : Int} {fs : List Fl} {a : Option Addr} {m c : Nat} {w : World} {R : Int} {gl : List (Int × Int × List UInt8 × List UInt8 × List UInt8 × List (List UInt8) × List UInt8 × List UInt8 × Bool)} (hm : fs.length = m) (hR : gR op (ls fs) = R) (hL : gL op (ls fs) = gl) (h : Calls Tryd.prog f #[.int .i64 op, .slice a fs.length c] w fun e w' => GrpIs op fs e w' ∧ Below w.heap.size w w') :
    Calls Tryd.prog f #[.int .i64 op, .slice a m c] w fun e w' => (∃ a' c' ys, e = .returned (.tuple #[.slice a' ys.length c', .int .i64 R]) ∧ FRow w' a' ys ∧ ys.map np = gl) ∧ Below w.heap.size w w' := by
  subst hm hR hL
  exact h
theorem gL_len (op : Int) (fs : List Fl) (h : Sml fs) : (gL op (ls fs)).length ≤ 1048577 := by
  unfold gL
  split
  · rw [outN_len]
    have := h.1
    omega
  · exact Nat.zero_le _
theorem gL_txt (op : Int) (fs : List Fl) (h : Sml fs) : ∀ t ∈ gL op (ls fs), t.2.2.2.2.2.1.length ≤ 1048576 := by
  intro t ht
  unfold gL at ht
  split at ht
  · unfold outN at ht
    rcases List.mem_cons.1 ht with rfl | ht
    · exact Nat.zero_le _
    · obtain ⟨f, hf, ht⟩ := List.mem_flatMap.1 ht
      obtain ⟨x, hx, rfl⟩ := List.mem_map.1 ht
      obtain ⟨F, hF, rfl⟩ := List.mem_map.1 hf
      exact (h.2 F hF x hx).1
  · cases ht
theorem two_len {ys : List Nod} {k : Nat} (h : (ys.map np).length = k) : ys.length = k := by simpa using h

set_option maxRecDepth 100000 in
set_option maxHeartbeats 4000000 in
theorem filterGroups_walk (op n : Int) (x0 x1 x2 : List Nod) (a0 a1 a2 : Option Addr) (c0 c1 c2 : Nat) (w : World) (hsum : x0.length + x1.length + x2.length ≤ 1048576)
    (hl0 : ∀ x ∈ x0, x.l.length ≤ 1048576 ∧ x.desc.length ≤ 1048576 ∧ x.rule.length ≤ 1048576) (hl1 : ∀ x ∈ x1, x.l.length ≤ 1048576 ∧ x.desc.length ≤ 1048576 ∧ x.rule.length ≤ 1048576) (hl2 : ∀ x ∈ x2, x.l.length ≤ 1048576 ∧ x.desc.length ≤ 1048576 ∧ x.rule.length ≤ 1048576) (h0 : FRow w a0 x0) (h1 : FRow w a1 x1) (h2 : FRow w a2 x2) (hT : RowTab w) :
    Calls Tryd.prog 3 #[.int .i64 op, .int .i64 n, .slice a0 x0.length c0, .slice a1 x1.length c1, .slice a2 x2.length c2] w fun e w' => e = .returned (.bool true) ∧ Below w.heap.size w w' := by
  have hC0 : Hid (∀ W, Below w.heap.size w W → Calls Tryd.prog 4 #[.slice a0 x0.length c0] W fun e w' => (∃ a' c' ys, e = .returned (.slice a' x0.length c') ∧ FRow w' a' ys ∧ ys.map np = x0.map np) ∧ Below W.heap.size W w') := fun W hW => copiedR_any x0 a0 c0 W (by omega) (fun x hx => (hl0 x hx).1) (h0.below hW)
  have hR0 : Hid (∀ W, Below w.heap.size w W → Calls Tryd.prog 5 #[.slice a0 x0.length c0] W fun e w' => (∃ g cap ys, e = .returned (.slice (some ⟨g, 0, none⟩) x0.length cap) ∧ MkG 9 nV nT zNo w' (some ⟨g, 0, none⟩) cap ys ∧ ys.map np = x0.map np) ∧ Below W.heap.size W w') := fun W hW => roomyR_any x0 a0 c0 W (by omega) (fun x hx => (hl0 x hx).1) (h0.below hW)
  have hC1 : Hid (∀ W, Below w.heap.size w W → Calls Tryd.prog 4 #[.slice a1 x1.length c1] W fun e w' => (∃ a' c' ys, e = .returned (.slice a' x1.length c') ∧ FRow w' a' ys ∧ ys.map np = x1.map np) ∧ Below W.heap.size W w') := fun W hW => copiedR_any x1 a1 c1 W (by omega) (fun x hx => (hl1 x hx).1) (h1.below hW)
  have hR1 : Hid (∀ W, Below w.heap.size w W → Calls Tryd.prog 5 #[.slice a1 x1.length c1] W fun e w' => (∃ g cap ys, e = .returned (.slice (some ⟨g, 0, none⟩) x1.length cap) ∧ MkG 9 nV nT zNo w' (some ⟨g, 0, none⟩) cap ys ∧ ys.map np = x1.map np) ∧ Below W.heap.size W w') := fun W hW => roomyR_any x1 a1 c1 W (by omega) (fun x hx => (hl1 x hx).1) (h1.below hW)
  have hC2 : Hid (∀ W, Below w.heap.size w W → Calls Tryd.prog 4 #[.slice a2 x2.length c2] W fun e w' => (∃ a' c' ys, e = .returned (.slice a' x2.length c') ∧ FRow w' a' ys ∧ ys.map np = x2.map np) ∧ Below W.heap.size W w') := fun W hW => copiedR_any x2 a2 c2 W (by omega) (fun x hx => (hl2 x hx).1) (h2.below hW)
  have hR2 : Hid (∀ W, Below w.heap.size w W → Calls Tryd.prog 5 #[.slice a2 x2.length c2] W fun e w' => (∃ g cap ys, e = .returned (.slice (some ⟨g, 0, none⟩) x2.length cap) ∧ MkG 9 nV nT zNo w' (some ⟨g, 0, none⟩) cap ys ∧ ys.map np = x2.map np) ∧ Below W.heap.size W w') := fun W hW => roomyR_any x2 a2 c2 W (by omega) (fun x hx => (hl2 x hx).1) (h2.below hW)
  have HL : Hid ((x0.length + x1.length + x2.length ≤ 1048576) ∧ (∀ x ∈ x0, x.l.length ≤ 1048576 ∧ x.desc.length ≤ 1048576 ∧ x.rule.length ≤ 1048576) ∧ (∀ x ∈ x1, x.l.length ≤ 1048576 ∧ x.desc.length ≤ 1048576 ∧ x.rule.length ≤ 1048576) ∧ (∀ x ∈ x2, x.l.length ≤ 1048576 ∧ x.desc.length ≤ 1048576 ∧ x.rule.length ≤ 1048576) ∧ RowTab w) := ⟨hsum, hl0, hl1, hl2, hT⟩
  clear hl0 hl1 hl2 h0 h1 h2 hT
  have T1 : True := trivial
  go_enter Tryd.func3, Tryd.ntmps3
  go_upto_region 2 with (first
    | (clear T1; go_at_call 4; refine (hC0.out _ (Below.refl _ _)).mono ?_; rintro e w1 ⟨⟨p0, d0, y0, rfl, f0, e0⟩, b1⟩; have T2 : True := trivial)
    | (clear T2; go_at_call 4; refine (hC1.out _ b1).mono ?_; rintro e w2 ⟨⟨p1, d1, y1, rfl, f1, e1⟩, b2⟩; have B2 : Below w.heap.size w w2 := b1.trans (b2.mono b1.size); have T3 : True := trivial)
    | (clear T3; go_at_call 4; refine (hC2.out _ B2).mono ?_; rintro e w3 ⟨⟨p2, d2, y2, rfl, f2, e2⟩, b3⟩))
  have B3 : Below w.heap.size w w3 := B2.trans (b3.mono B2.size)
  obtain ⟨W4, hW4⟩ : ∃ W, w3.alloc (.cells #[.slice p0 x0.length d0, .slice p1 x1.length d1, .slice p2 x2.length d2] 23) = W := ⟨_, rfl⟩
  rw [hW4]
  have b4 : Below w3.heap.size w3 W4 := by rw [← hW4]; exact (Below.refl _ _).alloc (Nat.le_refl _) _
  have bO : Box W4 w3.heap.size 23 #[.slice p0 x0.length d0, .slice p1 x1.length d1, .slice p2 x2.length d2] := by rw [← hW4]; exact Box.new _ _ _
  have B4 : Below w.heap.size w W4 := B3.trans (b4.mono B3.size)
  have OWN : Hid (Box W4 w3.heap.size 23 #[.slice p0 x0.length d0, .slice p1 x1.length d1, .slice p2 x2.length d2] ∧ (FRow W4 p0 y0 ∧ FRow W4 p1 y1 ∧ FRow W4 p2 y2) ∧ y0.map np = x0.map np ∧ y1.map np = x1.map np ∧ y2.map np = x2.map np ∧ Below w.heap.size w W4) := ⟨bO, ⟨((f0.below b2).below b3).below b4, (f1.below b3).below b4, f2.below b4⟩, e0, e1, e2, B4⟩
  clear hC0 hC1 hC2 hW4 b1 b2 b3 b4 B2 B3 bO f0 f1 f2 e0 e1 e2 B4
  have T4 : True := trivial
  go_upto_region 5 with (first
    | (clear T4; go_at_call 5; refine (hR0.out _ OWN.out.2.2.2.2.2).mono ?_; rintro e r1 ⟨⟨g0, k0, z0, rfl, m0, q0⟩, b1⟩; have B1 : Below w.heap.size w r1 := OWN.out.2.2.2.2.2.trans (b1.mono OWN.out.2.2.2.2.2.size); have T5 : True := trivial)
    | (clear T5; go_at_call 5; refine (hR1.out _ B1).mono ?_; rintro e r2 ⟨⟨g1, k1, z1, rfl, m1, q1⟩, b2⟩; have B2 : Below w.heap.size w r2 := B1.trans (b2.mono B1.size); have T6 : True := trivial)
    | (clear T6; go_at_call 5; refine (hR2.out _ B2).mono ?_; rintro e r3 ⟨⟨g2, k2, z2, rfl, m2, q2⟩, b3⟩; have B3 : Below w.heap.size w r3 := B2.trans (b3.mono B2.size)))
  have RO : Hid ((MkG 9 nV nT zNo r3 (some ⟨g0, 0, none⟩) k0 z0 ∧ MkG 9 nV nT zNo r3 (some ⟨g1, 0, none⟩) k1 z1 ∧ MkG 9 nV nT zNo r3 (some ⟨g2, 0, none⟩) k2 z2) ∧ z0.map np = x0.map np ∧ z1.map np = x1.map np ∧ z2.map np = x2.map np ∧ Below W4.heap.size W4 r3 ∧ Below w.heap.size w r3) := ⟨⟨(m0.below nV_len b2).below nV_len b3, m1.below nV_len b3, m2⟩, q0, q1, q2, (b1.trans (b2.mono b1.size)).trans (b3.mono (by have := b1.size; have := b2.size; omega)), B3⟩
  clear hR0 hR1 hR2 m0 m1 m2 q0 q1 q2 b1 b2 b3 B1 B2 B3
  have hH0 : Hid (∀ W, Below r3.heap.size r3 W → Calls Tryd.prog 6 #[.slice (some ⟨g0, 0, none⟩) x0.length k0] W fun e w' => (∃ g cap, e = .returned (.slice (some ⟨g, 0, none⟩) (x0.length + 1) cap) ∧ GRow 9 nV w' (some ⟨g, 0, none⟩) (z0 ++ [zNo])) ∧ Below W.heap.size W w') := fun W hW => by
    have hlen : z0.length = x0.length := by simpa using congrArg List.length RO.out.2.1
    have := heads_any z0 (some ⟨g0, 0, none⟩) k0 W (by have := HL.out.1; omega) (RO.out.1.1.below nV_len hW)
    rw [hlen] at this
    exact this
  have hH1 : Hid (∀ W, Below r3.heap.size r3 W → Calls Tryd.prog 6 #[.slice (some ⟨g1, 0, none⟩) x1.length k1] W fun e w' => (∃ g cap, e = .returned (.slice (some ⟨g, 0, none⟩) (x1.length + 1) cap) ∧ GRow 9 nV w' (some ⟨g, 0, none⟩) (z1 ++ [zNo])) ∧ Below W.heap.size W w') := fun W hW => by
    have hlen : z1.length = x1.length := by simpa using congrArg List.length RO.out.2.2.1
    have := heads_any z1 (some ⟨g1, 0, none⟩) k1 W (by have := HL.out.1; omega) (RO.out.1.2.1.below nV_len hW)
    rw [hlen] at this
    exact this
  have hH2 : Hid (∀ W, Below r3.heap.size r3 W → Calls Tryd.prog 6 #[.slice (some ⟨g2, 0, none⟩) x2.length k2] W fun e w' => (∃ g cap, e = .returned (.slice (some ⟨g, 0, none⟩) (x2.length + 1) cap) ∧ GRow 9 nV w' (some ⟨g, 0, none⟩) (z2 ++ [zNo])) ∧ Below W.heap.size W w') := fun W hW => by
    have hlen : z2.length = x2.length := by simpa using congrArg List.length RO.out.2.2.2.1
    have := heads_any z2 (some ⟨g2, 0, none⟩) k2 W (by have := HL.out.1; omega) (RO.out.1.2.2.below nV_len hW)
    rw [hlen] at this
    exact this
  have T7 : True := trivial
  go_upto_region 8 with (first
    | (clear T7; go_at_call 6; refine (hH0.out _ (Below.refl _ _)).mono ?_; rintro e s1 ⟨⟨u0, j0, rfl, v0⟩, b1⟩; have T8 : True := trivial)
    | (clear T8; go_at_call 6; refine (hH1.out _ b1).mono ?_; rintro e s2 ⟨⟨u1, j1, rfl, v1⟩, b2⟩; have B2 : Below r3.heap.size r3 s2 := b1.trans (b2.mono b1.size); have T9 : True := trivial)
    | (clear T9; go_at_call 6; refine (hH2.out _ B2).mono ?_; rintro e s3 ⟨⟨u2, j2, rfl, v2⟩, b3⟩))
  have B3 : Below r3.heap.size r3 s3 := B2.trans (b3.mono B2.size)
  obtain ⟨W8, hW8⟩ : ∃ W, s3.alloc (.cells #[.slice (some ⟨g0, 0, none⟩) x0.length k0, .slice (some ⟨g1, 0, none⟩) x1.length k1, .slice (some ⟨g2, 0, none⟩) x2.length k2] 23) = W := ⟨_, rfl⟩
  have b8 : Below s3.heap.size s3 W8 := by rw [← hW8]; exact (Below.refl _ _).alloc (Nat.le_refl _) _
  have bR : Box W8 s3.heap.size 23 #[.slice (some ⟨g0, 0, none⟩) x0.length k0, .slice (some ⟨g1, 0, none⟩) x1.length k1, .slice (some ⟨g2, 0, none⟩) x2.length k2] := by rw [← hW8]; exact Box.new _ _ _
  have B8 : Below r3.heap.size r3 W8 := B3.trans (b8.mono B3.size)
  have BO : Below W4.heap.size W4 W8 := RO.out.2.2.2.2.1.trans (B8.mono RO.out.2.2.2.2.1.size)
  have BW : Below w.heap.size w W8 := RO.out.2.2.2.2.2.trans (B8.mono RO.out.2.2.2.2.2.size)
  have ln0 : y0.length = x0.length ∧ z0.length = x0.length := ⟨by simpa using congrArg List.length OWN.out.2.2.1, by simpa using congrArg List.length RO.out.2.1⟩
  have ln1 : y1.length = x1.length ∧ z1.length = x1.length := ⟨by simpa using congrArg List.length OWN.out.2.2.2.1, by simpa using congrArg List.length RO.out.2.2.1⟩
  have ln2 : y2.length = x2.length ∧ z2.length = x2.length := ⟨by simpa using congrArg List.length OWN.out.2.2.2.2.1, by simpa using congrArg List.length RO.out.2.2.2.1⟩
  have FO : Hid (∀ W, Below W8.heap.size W8 W → RdF W (some ⟨w3.heap.size, 0, none⟩) [⟨p0, d0, y0⟩, ⟨p1, d1, y1⟩, ⟨p2, d2, y2⟩]) := fun W hW => (rdF3 (OWN.out.1.below BO) ln0.1.symm ln1.1.symm ln2.1.symm (OWN.out.2.1.1.below BO) (OWN.out.2.1.2.1.below BO) (OWN.out.2.1.2.2.below BO)).below hW
  have FR : Hid (∀ W, Below W8.heap.size W8 W → RdF W (some ⟨s3.heap.size, 0, none⟩) [⟨some ⟨g0, 0, none⟩, k0, z0⟩, ⟨some ⟨g1, 0, none⟩, k1, z1⟩, ⟨some ⟨g2, 0, none⟩, k2, z2⟩]) := fun W hW => (rdF3 bR ln0.2.symm ln1.2.symm ln2.2.symm (RO.out.1.1.below nV_len B8).rd.fr (RO.out.1.2.1.below nV_len B8).rd.fr (RO.out.1.2.2.below nV_len B8).rd.fr).below hW
  have SO : Hid (Sml [⟨p0, d0, y0⟩, ⟨p1, d1, y1⟩, ⟨p2, d2, y2⟩]) := ⟨by show y0.length + (y1.length + (y2.length + 0)) ≤ 1048576; rw [ln0.1, ln1.1, ln2.1]; omega, fun f hf => by
    simp only [List.mem_cons, List.mem_nil_iff, or_false] at hf
    rcases hf with rfl | rfl | rfl
    · exact map_bnd OWN.out.2.2.1 HL.out.2.1
    · exact map_bnd OWN.out.2.2.2.1 HL.out.2.2.1
    · exact map_bnd OWN.out.2.2.2.2.1 HL.out.2.2.2.1⟩
  have SR : Hid (Sml [⟨some ⟨g0, 0, none⟩, k0, z0⟩, ⟨some ⟨g1, 0, none⟩, k1, z1⟩, ⟨some ⟨g2, 0, none⟩, k2, z2⟩]) := ⟨by show z0.length + (z1.length + (z2.length + 0)) ≤ 1048576; rw [ln0.2, ln1.2, ln2.2]; omega, fun f hf => by
    simp only [List.mem_cons, List.mem_nil_iff, or_false] at hf
    rcases hf with rfl | rfl | rfl
    · exact map_bnd RO.out.2.1 HL.out.2.1
    · exact map_bnd RO.out.2.2.1 HL.out.2.2.1
    · exact map_bnd RO.out.2.2.2.1 HL.out.2.2.2.1⟩
  have AL : Hid (∀ m, (ls (List.take m [(⟨some ⟨g0, 0, none⟩, k0, z0⟩ : Fl), ⟨some ⟨g1, 0, none⟩, k1, z1⟩, ⟨some ⟨g2, 0, none⟩, k2, z2⟩])).map (List.map np) = (ls (List.take m [(⟨p0, d0, y0⟩ : Fl), ⟨p1, d1, y1⟩, ⟨p2, d2, y2⟩])).map (List.map np)) := fun m => by
    unfold ls
    rw [List.map_take, List.map_take, List.map_take, List.map_take]
    simp only [List.map_cons, List.map_nil]
    rw [RO.out.2.1, RO.out.2.2.1, RO.out.2.2.2.1, OWN.out.2.2.1, OWN.out.2.2.2.1, OWN.out.2.2.2.2.1]
  have SP0 : Hid (∀ W, Below W8.heap.size W8 W → Calls Tryd.prog 10 #[.slice (some ⟨g0, 0, none⟩) x0.length k0, .slice (some ⟨u0, 0, none⟩) (x0.length + 1) j0, .slice p0 x0.length d0] W fun e w' => e = .returned (.bool true) ∧ Below W.heap.size W w') := fun W hW => by
    have := sparedF_any y0 z0 (some ⟨g0, 0, none⟩) (some ⟨u0, 0, none⟩) p0 k0 j0 d0 W (by have := HL.out.1; omega) (fun x hx => (map_bnd OWN.out.2.2.1 HL.out.2.1 x hx).1) (by rw [RO.out.2.1, OWN.out.2.2.1]) ((RO.out.1.1.below nV_len B8).below nV_len hW) ((((v0.below nV_len b2).below nV_len b3).below nV_len b8).below nV_len hW) ((OWN.out.2.1.1.below BO).below hW)
    rw [ln0.1] at this
    exact this
  have SP1 : Hid (∀ W, Below W8.heap.size W8 W → Calls Tryd.prog 10 #[.slice (some ⟨g1, 0, none⟩) x1.length k1, .slice (some ⟨u1, 0, none⟩) (x1.length + 1) j1, .slice p1 x1.length d1] W fun e w' => e = .returned (.bool true) ∧ Below W.heap.size W w') := fun W hW => by
    have := sparedF_any y1 z1 (some ⟨g1, 0, none⟩) (some ⟨u1, 0, none⟩) p1 k1 j1 d1 W (by have := HL.out.1; omega) (fun x hx => (map_bnd OWN.out.2.2.2.1 HL.out.2.2.1 x hx).1) (by rw [RO.out.2.2.1, OWN.out.2.2.2.1]) ((RO.out.1.2.1.below nV_len B8).below nV_len hW) (((v1.below nV_len b3).below nV_len b8).below nV_len hW) ((OWN.out.2.1.2.1.below BO).below hW)
    rw [ln1.1] at this
    exact this
  have SP2 : Hid (∀ W, Below W8.heap.size W8 W → Calls Tryd.prog 10 #[.slice (some ⟨g2, 0, none⟩) x2.length k2, .slice (some ⟨u2, 0, none⟩) (x2.length + 1) j2, .slice p2 x2.length d2] W fun e w' => e = .returned (.bool true) ∧ Below W.heap.size W w') := fun W hW => by
    have := sparedF_any y2 z2 (some ⟨g2, 0, none⟩) (some ⟨u2, 0, none⟩) p2 k2 j2 d2 W (by have := HL.out.1; omega) (fun x hx => (map_bnd OWN.out.2.2.2.2.1 HL.out.2.2.2.1 x hx).1) (by rw [RO.out.2.2.2.1, OWN.out.2.2.2.2.1]) ((RO.out.1.2.2.below nV_len B8).below nV_len hW) (((v2).below nV_len b8).below nV_len hW) ((OWN.out.2.1.2.2.below BO).below hW)
    rw [ln2.1] at this
    exact this
  have CE : Hid (∀ W, Below W8.heap.size W8 W → W.cell? ⟨w3.heap.size, 0, none⟩ = some (.slice p0 x0.length d0) ∧ W.cell? ⟨w3.heap.size, 1, none⟩ = some (.slice p1 x1.length d1) ∧ W.cell? ⟨w3.heap.size, 2, none⟩ = some (.slice p2 x2.length d2)) := fun W hW => by
    have hb := (OWN.out.1.below BO).below hW
    exact ⟨(hb.cell 0 (by simp)).1, (hb.cell 1 (by simp)).1, (hb.cell 2 (by simp)).1⟩
  have TB : Hid (∀ W, Below W8.heap.size W8 W → RowTab W) := fun W hW => (HL.out.2.2.2.2.below BW).below hW
  have BW' : Hid (Below w.heap.size w W8) := BW
  have NIL : Hid (∀ W, Calls Tryd.prog 8 #[.int .i64 1, .slice none 0 0] W fun e w' => (∃ a' c' ys, e = .returned (.tuple #[.slice a' 1 c', .int .i64 0]) ∧ FRow w' a' ys) ∧ Below W.heap.size W w') := fun W => by
    refine (gGroup_any 1 [] none 0 W (by decide) ⟨by decide, fun f hf => by cases hf⟩ ⟨GRow.nil _ _ _ _, fun f hf => by cases hf⟩).mono fun e w' => ?_
    rintro ⟨⟨a', c', ys, rfl, hr, hp⟩, hb⟩
    have hlen : ys.length = 1 := two_len (by rw [hp]; rfl)
    refine ⟨⟨a', c', ys, ?_, hr⟩, hb⟩
    rw [hlen]
    rfl
  go_upto_region 9 with fail
  clear hW8 b8 bR B8 BO BW B3 b1 b2 b3 B2 v0 v1 v2 hH0 hH1 hH2 ln0 ln1 ln2
  have hcase : n = 0 ∨ n = 1 ∨ n = 2 ∨ n = 3 ∨ (n < 0 ∨ (¬ n < 0 ∧ 3 < n)) := by omega
  rcases hcase with rfl | rfl | rfl | rfl | hcase
  · have RG : Hid (∃ R gl, (Calls Tryd.prog 7 #[.int .i64 op, .slice (some ⟨w3.heap.size, 0, none⟩) 0 3] W8 fun e w' => (∃ a' c' ys, e = .returned (.tuple #[.slice a' ys.length c', .int .i64 R]) ∧ FRow w' a' ys ∧ ys.map np = gl) ∧ Below W8.heap.size W8 w') ∧ (∀ W, Below W8.heap.size W8 W → Calls Tryd.prog 8 #[.int .i64 op, .slice (some ⟨s3.heap.size, 0, none⟩) 0 3] W fun e w' => (∃ a' c' ys, e = .returned (.tuple #[.slice a' ys.length c', .int .i64 R]) ∧ FRow w' a' ys ∧ ys.map np = gl) ∧ Below W.heap.size W w') ∧ gl.length ≤ 1048577 ∧ ∀ t ∈ gl, t.2.2.2.2.2.1.length ≤ 1048576) := by
      have SOm := SO.out.take 0
      have SRm := SR.out.take 0
      refine ⟨gR op (ls (List.take 0 [(⟨p0, d0, y0⟩ : Fl), ⟨p1, d1, y1⟩, ⟨p2, d2, y2⟩])), gL op (ls (List.take 0 [(⟨p0, d0, y0⟩ : Fl), ⟨p1, d1, y1⟩, ⟨p2, d2, y2⟩])), ?_, fun W hW => ?_, gL_len _ _ SOm, gL_txt _ _ SOm⟩
      · exact grp_lift rfl rfl rfl (rGroup_any op _ _ 3 W8 (by simp) SOm ((FO.out W8 (Below.refl _ _)).take 0) (TB.out W8 (Below.refl _ _)))
      · exact grp_lift rfl (gR_np (AL.out 0)).1 (gR_np (AL.out 0)).2 (gGroup_any op _ _ 3 W (by simp) SRm ((FR.out W hW).take 0))
    obtain ⟨R, gl, RG1, RG2, hgl, htx⟩ := RG.out
    have RG1' : Hid (Calls Tryd.prog 7 #[.int .i64 op, .slice (some ⟨w3.heap.size, 0, none⟩) 0 3] W8 fun e w' => (∃ a' c' ys, e = .returned (.tuple #[.slice a' ys.length c', .int .i64 R]) ∧ FRow w' a' ys ∧ ys.map np = gl) ∧ Below W8.heap.size W8 w') := RG1
    have RG2' : Hid (∀ W, Below W8.heap.size W8 W → Calls Tryd.prog 8 #[.int .i64 op, .slice (some ⟨s3.heap.size, 0, none⟩) 0 3] W fun e w' => (∃ a' c' ys, e = .returned (.tuple #[.slice a' ys.length c', .int .i64 R]) ∧ FRow w' a' ys ∧ ys.map np = gl) ∧ Below W.heap.size W w') := RG2
    have hgl' : Hid (gl.length ≤ 1048577 ∧ ∀ t ∈ gl, t.2.2.2.2.2.1.length ≤ 1048576) := ⟨hgl, htx⟩
    have RR : (R != R) = false := by simp
    clear RG RG1 RG2 hgl htx FO FR SO SR AL TB
    have U1 : True := trivial
    go_upto_region 12 with (go_at_call 7; refine RG1'.out.mono ?_; rintro e t1 ⟨⟨qa, qc, qs, rfl, qf, qp⟩, b1⟩)
    have qf' : Hid (FRow t1 qa qs ∧ qs.map np = gl) := ⟨qf, qp⟩
    clear qf qp RG1'
    go_upto_region 13 with (go_at_call 8; refine (RG2'.out t1 b1).mono ?_; rintro e t2 ⟨⟨ra, rc, rs, rfl, rf, rp⟩, b2⟩)
    have SM : Hid (Calls Tryd.prog 9 #[.slice ra rs.length rc, .slice qa qs.length qc] t2 fun e w' => e = .returned (.bool true) ∧ Below t2.heap.size t2 w') := by
      have hb1 : ∀ x ∈ rs, x.l.length ≤ 1048576 := fun x hx => hgl'.out.2 (np x) (by rw [← rp]; exact List.mem_map.2 ⟨x, hx, rfl⟩)
      have hb2 : ∀ x ∈ qs, x.l.length ≤ 1048576 := fun x hx => hgl'.out.2 (np x) (by rw [← qf'.out.2]; exact List.mem_map.2 ⟨x, hx, rfl⟩)
      have hl1 : rs.length ≤ 1048577 := by have := congrArg List.length rp; rw [List.length_map] at this; have := hgl'.out.1; omega
      have hl2 : qs.length ≤ 1048577 := by have := congrArg List.length qf'.out.2; rw [List.length_map] at this; have := hgl'.out.1; omega
      have := sameF_any rs qs ra qa rc qc t2 hl1 hl2 hb1 hb2 rf (qf'.out.1.below b2)
      rw [fb_yes (by rw [rp, qf'.out.2])] at this
      exact this
    have B2 : Below W8.heap.size W8 t2 := b1.trans (b2.mono b1.size)
    clear RG2' rf rp qf' b1 b2 hgl' U1
    have V1 : True := trivial
    go_upto_region 15 with (first
      | (go_at_call 9; refine SM.out.mono ?_; rintro e t3 ⟨rfl, b3⟩; have B3 : Below W8.heap.size W8 t3 := B2.trans (b3.mono B2.size); obtain ⟨ce0, _, _⟩ := CE.out t3 B3; have V2 : True := trivial)
      | (clear V2; go_at_call 10; refine (SP0.out t3 B3).mono ?_; rintro e t4 ⟨rfl, b4⟩; have B4 : Below W8.heap.size W8 t4 := B3.trans (b4.mono B3.size); obtain ⟨_, ce1, _⟩ := CE.out t4 B4; have V3 : True := trivial)
      | (clear V3; go_at_call 10; refine (SP1.out t4 B4).mono ?_; rintro e t5 ⟨rfl, b5⟩; have B5 : Below W8.heap.size W8 t5 := B4.trans (b5.mono B4.size); obtain ⟨_, _, ce2⟩ := CE.out t5 B5; have V4 : True := trivial)
      | (clear V4; go_at_call 10; refine (SP2.out t5 B5).mono ?_; rintro e t6 ⟨rfl, b6⟩; have B6 : Below W8.heap.size W8 t6 := B5.trans (b6.mono B5.size)))
    go_wp2_with (go_at_call 8; refine (NIL.out t6).mono ?_; rintro e t7 ⟨⟨na, nc, ns, rfl, nf⟩, b7⟩)
    go_ret
    exact ⟨rfl, by have h6 := BW'.out.trans (B6.mono BW'.out.size); exact h6.trans (b7.mono h6.size)⟩
  · have RG : Hid (∃ R gl, (Calls Tryd.prog 7 #[.int .i64 op, .slice (some ⟨w3.heap.size, 0, none⟩) 1 3] W8 fun e w' => (∃ a' c' ys, e = .returned (.tuple #[.slice a' ys.length c', .int .i64 R]) ∧ FRow w' a' ys ∧ ys.map np = gl) ∧ Below W8.heap.size W8 w') ∧ (∀ W, Below W8.heap.size W8 W → Calls Tryd.prog 8 #[.int .i64 op, .slice (some ⟨s3.heap.size, 0, none⟩) 1 3] W fun e w' => (∃ a' c' ys, e = .returned (.tuple #[.slice a' ys.length c', .int .i64 R]) ∧ FRow w' a' ys ∧ ys.map np = gl) ∧ Below W.heap.size W w') ∧ gl.length ≤ 1048577 ∧ ∀ t ∈ gl, t.2.2.2.2.2.1.length ≤ 1048576) := by
      have SOm := SO.out.take 1
      have SRm := SR.out.take 1
      refine ⟨gR op (ls (List.take 1 [(⟨p0, d0, y0⟩ : Fl), ⟨p1, d1, y1⟩, ⟨p2, d2, y2⟩])), gL op (ls (List.take 1 [(⟨p0, d0, y0⟩ : Fl), ⟨p1, d1, y1⟩, ⟨p2, d2, y2⟩])), ?_, fun W hW => ?_, gL_len _ _ SOm, gL_txt _ _ SOm⟩
      · exact grp_lift rfl rfl rfl (rGroup_any op _ _ 3 W8 (by simp) SOm ((FO.out W8 (Below.refl _ _)).take 1) (TB.out W8 (Below.refl _ _)))
      · exact grp_lift rfl (gR_np (AL.out 1)).1 (gR_np (AL.out 1)).2 (gGroup_any op _ _ 3 W (by simp) SRm ((FR.out W hW).take 1))
    obtain ⟨R, gl, RG1, RG2, hgl, htx⟩ := RG.out
    have RG1' : Hid (Calls Tryd.prog 7 #[.int .i64 op, .slice (some ⟨w3.heap.size, 0, none⟩) 1 3] W8 fun e w' => (∃ a' c' ys, e = .returned (.tuple #[.slice a' ys.length c', .int .i64 R]) ∧ FRow w' a' ys ∧ ys.map np = gl) ∧ Below W8.heap.size W8 w') := RG1
    have RG2' : Hid (∀ W, Below W8.heap.size W8 W → Calls Tryd.prog 8 #[.int .i64 op, .slice (some ⟨s3.heap.size, 0, none⟩) 1 3] W fun e w' => (∃ a' c' ys, e = .returned (.tuple #[.slice a' ys.length c', .int .i64 R]) ∧ FRow w' a' ys ∧ ys.map np = gl) ∧ Below W.heap.size W w') := RG2
    have hgl' : Hid (gl.length ≤ 1048577 ∧ ∀ t ∈ gl, t.2.2.2.2.2.1.length ≤ 1048576) := ⟨hgl, htx⟩
    have RR : (R != R) = false := by simp
    clear RG RG1 RG2 hgl htx FO FR SO SR AL TB
    have U1 : True := trivial
    go_upto_region 12 with (go_at_call 7; refine RG1'.out.mono ?_; rintro e t1 ⟨⟨qa, qc, qs, rfl, qf, qp⟩, b1⟩)
    have qf' : Hid (FRow t1 qa qs ∧ qs.map np = gl) := ⟨qf, qp⟩
    clear qf qp RG1'
    go_upto_region 13 with (go_at_call 8; refine (RG2'.out t1 b1).mono ?_; rintro e t2 ⟨⟨ra, rc, rs, rfl, rf, rp⟩, b2⟩)
    have SM : Hid (Calls Tryd.prog 9 #[.slice ra rs.length rc, .slice qa qs.length qc] t2 fun e w' => e = .returned (.bool true) ∧ Below t2.heap.size t2 w') := by
      have hb1 : ∀ x ∈ rs, x.l.length ≤ 1048576 := fun x hx => hgl'.out.2 (np x) (by rw [← rp]; exact List.mem_map.2 ⟨x, hx, rfl⟩)
      have hb2 : ∀ x ∈ qs, x.l.length ≤ 1048576 := fun x hx => hgl'.out.2 (np x) (by rw [← qf'.out.2]; exact List.mem_map.2 ⟨x, hx, rfl⟩)
      have hl1 : rs.length ≤ 1048577 := by have := congrArg List.length rp; rw [List.length_map] at this; have := hgl'.out.1; omega
      have hl2 : qs.length ≤ 1048577 := by have := congrArg List.length qf'.out.2; rw [List.length_map] at this; have := hgl'.out.1; omega
      have := sameF_any rs qs ra qa rc qc t2 hl1 hl2 hb1 hb2 rf (qf'.out.1.below b2)
      rw [fb_yes (by rw [rp, qf'.out.2])] at this
      exact this
    have B2 : Below W8.heap.size W8 t2 := b1.trans (b2.mono b1.size)
    clear RG2' rf rp qf' b1 b2 hgl' U1
    have V1 : True := trivial
    go_upto_region 15 with (first
      | (go_at_call 9; refine SM.out.mono ?_; rintro e t3 ⟨rfl, b3⟩; have B3 : Below W8.heap.size W8 t3 := B2.trans (b3.mono B2.size); obtain ⟨ce0, _, _⟩ := CE.out t3 B3; have V2 : True := trivial)
      | (clear V2; go_at_call 10; refine (SP0.out t3 B3).mono ?_; rintro e t4 ⟨rfl, b4⟩; have B4 : Below W8.heap.size W8 t4 := B3.trans (b4.mono B3.size); obtain ⟨_, ce1, _⟩ := CE.out t4 B4; have V3 : True := trivial)
      | (clear V3; go_at_call 10; refine (SP1.out t4 B4).mono ?_; rintro e t5 ⟨rfl, b5⟩; have B5 : Below W8.heap.size W8 t5 := B4.trans (b5.mono B4.size); obtain ⟨_, _, ce2⟩ := CE.out t5 B5; have V4 : True := trivial)
      | (clear V4; go_at_call 10; refine (SP2.out t5 B5).mono ?_; rintro e t6 ⟨rfl, b6⟩; have B6 : Below W8.heap.size W8 t6 := B5.trans (b6.mono B5.size)))
    go_wp2_with (go_at_call 8; refine (NIL.out t6).mono ?_; rintro e t7 ⟨⟨na, nc, ns, rfl, nf⟩, b7⟩)
    go_ret
    exact ⟨rfl, by have h6 := BW'.out.trans (B6.mono BW'.out.size); exact h6.trans (b7.mono h6.size)⟩
  · have RG : Hid (∃ R gl, (Calls Tryd.prog 7 #[.int .i64 op, .slice (some ⟨w3.heap.size, 0, none⟩) 2 3] W8 fun e w' => (∃ a' c' ys, e = .returned (.tuple #[.slice a' ys.length c', .int .i64 R]) ∧ FRow w' a' ys ∧ ys.map np = gl) ∧ Below W8.heap.size W8 w') ∧ (∀ W, Below W8.heap.size W8 W → Calls Tryd.prog 8 #[.int .i64 op, .slice (some ⟨s3.heap.size, 0, none⟩) 2 3] W fun e w' => (∃ a' c' ys, e = .returned (.tuple #[.slice a' ys.length c', .int .i64 R]) ∧ FRow w' a' ys ∧ ys.map np = gl) ∧ Below W.heap.size W w') ∧ gl.length ≤ 1048577 ∧ ∀ t ∈ gl, t.2.2.2.2.2.1.length ≤ 1048576) := by
      have SOm := SO.out.take 2
      have SRm := SR.out.take 2
      refine ⟨gR op (ls (List.take 2 [(⟨p0, d0, y0⟩ : Fl), ⟨p1, d1, y1⟩, ⟨p2, d2, y2⟩])), gL op (ls (List.take 2 [(⟨p0, d0, y0⟩ : Fl), ⟨p1, d1, y1⟩, ⟨p2, d2, y2⟩])), ?_, fun W hW => ?_, gL_len _ _ SOm, gL_txt _ _ SOm⟩
      · exact grp_lift rfl rfl rfl (rGroup_any op _ _ 3 W8 (by simp) SOm ((FO.out W8 (Below.refl _ _)).take 2) (TB.out W8 (Below.refl _ _)))
      · exact grp_lift rfl (gR_np (AL.out 2)).1 (gR_np (AL.out 2)).2 (gGroup_any op _ _ 3 W (by simp) SRm ((FR.out W hW).take 2))
    obtain ⟨R, gl, RG1, RG2, hgl, htx⟩ := RG.out
    have RG1' : Hid (Calls Tryd.prog 7 #[.int .i64 op, .slice (some ⟨w3.heap.size, 0, none⟩) 2 3] W8 fun e w' => (∃ a' c' ys, e = .returned (.tuple #[.slice a' ys.length c', .int .i64 R]) ∧ FRow w' a' ys ∧ ys.map np = gl) ∧ Below W8.heap.size W8 w') := RG1
    have RG2' : Hid (∀ W, Below W8.heap.size W8 W → Calls Tryd.prog 8 #[.int .i64 op, .slice (some ⟨s3.heap.size, 0, none⟩) 2 3] W fun e w' => (∃ a' c' ys, e = .returned (.tuple #[.slice a' ys.length c', .int .i64 R]) ∧ FRow w' a' ys ∧ ys.map np = gl) ∧ Below W.heap.size W w') := RG2
    have hgl' : Hid (gl.length ≤ 1048577 ∧ ∀ t ∈ gl, t.2.2.2.2.2.1.length ≤ 1048576) := ⟨hgl, htx⟩
    have RR : (R != R) = false := by simp
    clear RG RG1 RG2 hgl htx FO FR SO SR AL TB
    have U1 : True := trivial
    go_upto_region 12 with (go_at_call 7; refine RG1'.out.mono ?_; rintro e t1 ⟨⟨qa, qc, qs, rfl, qf, qp⟩, b1⟩)
    have qf' : Hid (FRow t1 qa qs ∧ qs.map np = gl) := ⟨qf, qp⟩
    clear qf qp RG1'
    go_upto_region 13 with (go_at_call 8; refine (RG2'.out t1 b1).mono ?_; rintro e t2 ⟨⟨ra, rc, rs, rfl, rf, rp⟩, b2⟩)
    have SM : Hid (Calls Tryd.prog 9 #[.slice ra rs.length rc, .slice qa qs.length qc] t2 fun e w' => e = .returned (.bool true) ∧ Below t2.heap.size t2 w') := by
      have hb1 : ∀ x ∈ rs, x.l.length ≤ 1048576 := fun x hx => hgl'.out.2 (np x) (by rw [← rp]; exact List.mem_map.2 ⟨x, hx, rfl⟩)
      have hb2 : ∀ x ∈ qs, x.l.length ≤ 1048576 := fun x hx => hgl'.out.2 (np x) (by rw [← qf'.out.2]; exact List.mem_map.2 ⟨x, hx, rfl⟩)
      have hl1 : rs.length ≤ 1048577 := by have := congrArg List.length rp; rw [List.length_map] at this; have := hgl'.out.1; omega
      have hl2 : qs.length ≤ 1048577 := by have := congrArg List.length qf'.out.2; rw [List.length_map] at this; have := hgl'.out.1; omega
      have := sameF_any rs qs ra qa rc qc t2 hl1 hl2 hb1 hb2 rf (qf'.out.1.below b2)
      rw [fb_yes (by rw [rp, qf'.out.2])] at this
      exact this
    have B2 : Below W8.heap.size W8 t2 := b1.trans (b2.mono b1.size)
    clear RG2' rf rp qf' b1 b2 hgl' U1
    have V1 : True := trivial
    go_upto_region 15 with (first
      | (go_at_call 9; refine SM.out.mono ?_; rintro e t3 ⟨rfl, b3⟩; have B3 : Below W8.heap.size W8 t3 := B2.trans (b3.mono B2.size); obtain ⟨ce0, _, _⟩ := CE.out t3 B3; have V2 : True := trivial)
      | (clear V2; go_at_call 10; refine (SP0.out t3 B3).mono ?_; rintro e t4 ⟨rfl, b4⟩; have B4 : Below W8.heap.size W8 t4 := B3.trans (b4.mono B3.size); obtain ⟨_, ce1, _⟩ := CE.out t4 B4; have V3 : True := trivial)
      | (clear V3; go_at_call 10; refine (SP1.out t4 B4).mono ?_; rintro e t5 ⟨rfl, b5⟩; have B5 : Below W8.heap.size W8 t5 := B4.trans (b5.mono B4.size); obtain ⟨_, _, ce2⟩ := CE.out t5 B5; have V4 : True := trivial)
      | (clear V4; go_at_call 10; refine (SP2.out t5 B5).mono ?_; rintro e t6 ⟨rfl, b6⟩; have B6 : Below W8.heap.size W8 t6 := B5.trans (b6.mono B5.size)))
    go_wp2_with (go_at_call 8; refine (NIL.out t6).mono ?_; rintro e t7 ⟨⟨na, nc, ns, rfl, nf⟩, b7⟩)
    go_ret
    exact ⟨rfl, by have h6 := BW'.out.trans (B6.mono BW'.out.size); exact h6.trans (b7.mono h6.size)⟩
  · have RG : Hid (∃ R gl, (Calls Tryd.prog 7 #[.int .i64 op, .slice (some ⟨w3.heap.size, 0, none⟩) 3 3] W8 fun e w' => (∃ a' c' ys, e = .returned (.tuple #[.slice a' ys.length c', .int .i64 R]) ∧ FRow w' a' ys ∧ ys.map np = gl) ∧ Below W8.heap.size W8 w') ∧ (∀ W, Below W8.heap.size W8 W → Calls Tryd.prog 8 #[.int .i64 op, .slice (some ⟨s3.heap.size, 0, none⟩) 3 3] W fun e w' => (∃ a' c' ys, e = .returned (.tuple #[.slice a' ys.length c', .int .i64 R]) ∧ FRow w' a' ys ∧ ys.map np = gl) ∧ Below W.heap.size W w') ∧ gl.length ≤ 1048577 ∧ ∀ t ∈ gl, t.2.2.2.2.2.1.length ≤ 1048576) := by
      have SOm := SO.out.take 3
      have SRm := SR.out.take 3
      refine ⟨gR op (ls (List.take 3 [(⟨p0, d0, y0⟩ : Fl), ⟨p1, d1, y1⟩, ⟨p2, d2, y2⟩])), gL op (ls (List.take 3 [(⟨p0, d0, y0⟩ : Fl), ⟨p1, d1, y1⟩, ⟨p2, d2, y2⟩])), ?_, fun W hW => ?_, gL_len _ _ SOm, gL_txt _ _ SOm⟩
      · exact grp_lift rfl rfl rfl (rGroup_any op _ _ 3 W8 (by simp) SOm ((FO.out W8 (Below.refl _ _)).take 3) (TB.out W8 (Below.refl _ _)))
      · exact grp_lift rfl (gR_np (AL.out 3)).1 (gR_np (AL.out 3)).2 (gGroup_any op _ _ 3 W (by simp) SRm ((FR.out W hW).take 3))
    obtain ⟨R, gl, RG1, RG2, hgl, htx⟩ := RG.out
    have RG1' : Hid (Calls Tryd.prog 7 #[.int .i64 op, .slice (some ⟨w3.heap.size, 0, none⟩) 3 3] W8 fun e w' => (∃ a' c' ys, e = .returned (.tuple #[.slice a' ys.length c', .int .i64 R]) ∧ FRow w' a' ys ∧ ys.map np = gl) ∧ Below W8.heap.size W8 w') := RG1
    have RG2' : Hid (∀ W, Below W8.heap.size W8 W → Calls Tryd.prog 8 #[.int .i64 op, .slice (some ⟨s3.heap.size, 0, none⟩) 3 3] W fun e w' => (∃ a' c' ys, e = .returned (.tuple #[.slice a' ys.length c', .int .i64 R]) ∧ FRow w' a' ys ∧ ys.map np = gl) ∧ Below W.heap.size W w') := RG2
    have hgl' : Hid (gl.length ≤ 1048577 ∧ ∀ t ∈ gl, t.2.2.2.2.2.1.length ≤ 1048576) := ⟨hgl, htx⟩
    have RR : (R != R) = false := by simp
    clear RG RG1 RG2 hgl htx FO FR SO SR AL TB
    have U1 : True := trivial
    go_upto_region 12 with (go_at_call 7; refine RG1'.out.mono ?_; rintro e t1 ⟨⟨qa, qc, qs, rfl, qf, qp⟩, b1⟩)
    have qf' : Hid (FRow t1 qa qs ∧ qs.map np = gl) := ⟨qf, qp⟩
    clear qf qp RG1'
    go_upto_region 13 with (go_at_call 8; refine (RG2'.out t1 b1).mono ?_; rintro e t2 ⟨⟨ra, rc, rs, rfl, rf, rp⟩, b2⟩)
    have SM : Hid (Calls Tryd.prog 9 #[.slice ra rs.length rc, .slice qa qs.length qc] t2 fun e w' => e = .returned (.bool true) ∧ Below t2.heap.size t2 w') := by
      have hb1 : ∀ x ∈ rs, x.l.length ≤ 1048576 := fun x hx => hgl'.out.2 (np x) (by rw [← rp]; exact List.mem_map.2 ⟨x, hx, rfl⟩)
      have hb2 : ∀ x ∈ qs, x.l.length ≤ 1048576 := fun x hx => hgl'.out.2 (np x) (by rw [← qf'.out.2]; exact List.mem_map.2 ⟨x, hx, rfl⟩)
      have hl1 : rs.length ≤ 1048577 := by have := congrArg List.length rp; rw [List.length_map] at this; have := hgl'.out.1; omega
      have hl2 : qs.length ≤ 1048577 := by have := congrArg List.length qf'.out.2; rw [List.length_map] at this; have := hgl'.out.1; omega
      have := sameF_any rs qs ra qa rc qc t2 hl1 hl2 hb1 hb2 rf (qf'.out.1.below b2)
      rw [fb_yes (by rw [rp, qf'.out.2])] at this
      exact this
    have B2 : Below W8.heap.size W8 t2 := b1.trans (b2.mono b1.size)
    clear RG2' rf rp qf' b1 b2 hgl' U1
    have V1 : True := trivial
    go_upto_region 15 with (first
      | (go_at_call 9; refine SM.out.mono ?_; rintro e t3 ⟨rfl, b3⟩; have B3 : Below W8.heap.size W8 t3 := B2.trans (b3.mono B2.size); obtain ⟨ce0, _, _⟩ := CE.out t3 B3; have V2 : True := trivial)
      | (clear V2; go_at_call 10; refine (SP0.out t3 B3).mono ?_; rintro e t4 ⟨rfl, b4⟩; have B4 : Below W8.heap.size W8 t4 := B3.trans (b4.mono B3.size); obtain ⟨_, ce1, _⟩ := CE.out t4 B4; have V3 : True := trivial)
      | (clear V3; go_at_call 10; refine (SP1.out t4 B4).mono ?_; rintro e t5 ⟨rfl, b5⟩; have B5 : Below W8.heap.size W8 t5 := B4.trans (b5.mono B4.size); obtain ⟨_, _, ce2⟩ := CE.out t5 B5; have V4 : True := trivial)
      | (clear V4; go_at_call 10; refine (SP2.out t5 B5).mono ?_; rintro e t6 ⟨rfl, b6⟩; have B6 : Below W8.heap.size W8 t6 := B5.trans (b6.mono B5.size)))
    go_wp2_with (go_at_call 8; refine (NIL.out t6).mono ?_; rintro e t7 ⟨⟨na, nc, ns, rfl, nf⟩, b7⟩)
    go_ret
    exact ⟨rfl, by have h6 := BW'.out.trans (B6.mono BW'.out.size); exact h6.trans (b7.mono h6.size)⟩
  · rcases hcase with hcase | ⟨hcase, hcase2⟩
    · have q1 : decide (n < 0) = true := decide_eq_true hcase
      have RG : Hid (∃ R gl, (Calls Tryd.prog 7 #[.int .i64 op, .slice (some ⟨w3.heap.size, 0, none⟩) 3 3] W8 fun e w' => (∃ a' c' ys, e = .returned (.tuple #[.slice a' ys.length c', .int .i64 R]) ∧ FRow w' a' ys ∧ ys.map np = gl) ∧ Below W8.heap.size W8 w') ∧ (∀ W, Below W8.heap.size W8 W → Calls Tryd.prog 8 #[.int .i64 op, .slice (some ⟨s3.heap.size, 0, none⟩) 3 3] W fun e w' => (∃ a' c' ys, e = .returned (.tuple #[.slice a' ys.length c', .int .i64 R]) ∧ FRow w' a' ys ∧ ys.map np = gl) ∧ Below W.heap.size W w') ∧ gl.length ≤ 1048577 ∧ ∀ t ∈ gl, t.2.2.2.2.2.1.length ≤ 1048576) := by
        have SOm := SO.out.take 3
        have SRm := SR.out.take 3
        refine ⟨gR op (ls (List.take 3 [(⟨p0, d0, y0⟩ : Fl), ⟨p1, d1, y1⟩, ⟨p2, d2, y2⟩])), gL op (ls (List.take 3 [(⟨p0, d0, y0⟩ : Fl), ⟨p1, d1, y1⟩, ⟨p2, d2, y2⟩])), ?_, fun W hW => ?_, gL_len _ _ SOm, gL_txt _ _ SOm⟩
        · exact grp_lift rfl rfl rfl (rGroup_any op _ _ 3 W8 (by simp) SOm ((FO.out W8 (Below.refl _ _)).take 3) (TB.out W8 (Below.refl _ _)))
        · exact grp_lift rfl (gR_np (AL.out 3)).1 (gR_np (AL.out 3)).2 (gGroup_any op _ _ 3 W (by simp) SRm ((FR.out W hW).take 3))
      obtain ⟨R, gl, RG1, RG2, hgl, htx⟩ := RG.out
      have RG1' : Hid (Calls Tryd.prog 7 #[.int .i64 op, .slice (some ⟨w3.heap.size, 0, none⟩) 3 3] W8 fun e w' => (∃ a' c' ys, e = .returned (.tuple #[.slice a' ys.length c', .int .i64 R]) ∧ FRow w' a' ys ∧ ys.map np = gl) ∧ Below W8.heap.size W8 w') := RG1
      have RG2' : Hid (∀ W, Below W8.heap.size W8 W → Calls Tryd.prog 8 #[.int .i64 op, .slice (some ⟨s3.heap.size, 0, none⟩) 3 3] W fun e w' => (∃ a' c' ys, e = .returned (.tuple #[.slice a' ys.length c', .int .i64 R]) ∧ FRow w' a' ys ∧ ys.map np = gl) ∧ Below W.heap.size W w') := RG2
      have hgl' : Hid (gl.length ≤ 1048577 ∧ ∀ t ∈ gl, t.2.2.2.2.2.1.length ≤ 1048576) := ⟨hgl, htx⟩
      have RR : (R != R) = false := by simp
      clear RG RG1 RG2 hgl htx FO FR SO SR AL TB
      have U1 : True := trivial
      go_upto_region 12 with (go_at_call 7; refine RG1'.out.mono ?_; rintro e t1 ⟨⟨qa, qc, qs, rfl, qf, qp⟩, b1⟩)
      have qf' : Hid (FRow t1 qa qs ∧ qs.map np = gl) := ⟨qf, qp⟩
      clear qf qp RG1'
      go_upto_region 13 with (go_at_call 8; refine (RG2'.out t1 b1).mono ?_; rintro e t2 ⟨⟨ra, rc, rs, rfl, rf, rp⟩, b2⟩)
      have SM : Hid (Calls Tryd.prog 9 #[.slice ra rs.length rc, .slice qa qs.length qc] t2 fun e w' => e = .returned (.bool true) ∧ Below t2.heap.size t2 w') := by
        have hb1 : ∀ x ∈ rs, x.l.length ≤ 1048576 := fun x hx => hgl'.out.2 (np x) (by rw [← rp]; exact List.mem_map.2 ⟨x, hx, rfl⟩)
        have hb2 : ∀ x ∈ qs, x.l.length ≤ 1048576 := fun x hx => hgl'.out.2 (np x) (by rw [← qf'.out.2]; exact List.mem_map.2 ⟨x, hx, rfl⟩)
        have hl1 : rs.length ≤ 1048577 := by have := congrArg List.length rp; rw [List.length_map] at this; have := hgl'.out.1; omega
        have hl2 : qs.length ≤ 1048577 := by have := congrArg List.length qf'.out.2; rw [List.length_map] at this; have := hgl'.out.1; omega
        have := sameF_any rs qs ra qa rc qc t2 hl1 hl2 hb1 hb2 rf (qf'.out.1.below b2)
        rw [fb_yes (by rw [rp, qf'.out.2])] at this
        exact this
      have B2 : Below W8.heap.size W8 t2 := b1.trans (b2.mono b1.size)
      clear RG2' rf rp qf' b1 b2 hgl' U1
      have V1 : True := trivial
      go_upto_region 15 with (first
        | (go_at_call 9; refine SM.out.mono ?_; rintro e t3 ⟨rfl, b3⟩; have B3 : Below W8.heap.size W8 t3 := B2.trans (b3.mono B2.size); obtain ⟨ce0, _, _⟩ := CE.out t3 B3; have V2 : True := trivial)
        | (clear V2; go_at_call 10; refine (SP0.out t3 B3).mono ?_; rintro e t4 ⟨rfl, b4⟩; have B4 : Below W8.heap.size W8 t4 := B3.trans (b4.mono B3.size); obtain ⟨_, ce1, _⟩ := CE.out t4 B4; have V3 : True := trivial)
        | (clear V3; go_at_call 10; refine (SP1.out t4 B4).mono ?_; rintro e t5 ⟨rfl, b5⟩; have B5 : Below W8.heap.size W8 t5 := B4.trans (b5.mono B4.size); obtain ⟨_, _, ce2⟩ := CE.out t5 B5; have V4 : True := trivial)
        | (clear V4; go_at_call 10; refine (SP2.out t5 B5).mono ?_; rintro e t6 ⟨rfl, b6⟩; have B6 : Below W8.heap.size W8 t6 := B5.trans (b6.mono B5.size)))
      go_wp2_with (go_at_call 8; refine (NIL.out t6).mono ?_; rintro e t7 ⟨⟨na, nc, ns, rfl, nf⟩, b7⟩)
      go_ret
      exact ⟨rfl, by have h6 := BW'.out.trans (B6.mono BW'.out.size); exact h6.trans (b7.mono h6.size)⟩
    · have q1 : decide (n < 0) = false := decide_eq_false hcase
      have q2 : decide (n > 3) = true := decide_eq_true hcase2
      have q3 : decide (3 < n) = true := decide_eq_true hcase2
      have RG : Hid (∃ R gl, (Calls Tryd.prog 7 #[.int .i64 op, .slice (some ⟨w3.heap.size, 0, none⟩) 3 3] W8 fun e w' => (∃ a' c' ys, e = .returned (.tuple #[.slice a' ys.length c', .int .i64 R]) ∧ FRow w' a' ys ∧ ys.map np = gl) ∧ Below W8.heap.size W8 w') ∧ (∀ W, Below W8.heap.size W8 W → Calls Tryd.prog 8 #[.int .i64 op, .slice (some ⟨s3.heap.size, 0, none⟩) 3 3] W fun e w' => (∃ a' c' ys, e = .returned (.tuple #[.slice a' ys.length c', .int .i64 R]) ∧ FRow w' a' ys ∧ ys.map np = gl) ∧ Below W.heap.size W w') ∧ gl.length ≤ 1048577 ∧ ∀ t ∈ gl, t.2.2.2.2.2.1.length ≤ 1048576) := by
        have SOm := SO.out.take 3
        have SRm := SR.out.take 3
        refine ⟨gR op (ls (List.take 3 [(⟨p0, d0, y0⟩ : Fl), ⟨p1, d1, y1⟩, ⟨p2, d2, y2⟩])), gL op (ls (List.take 3 [(⟨p0, d0, y0⟩ : Fl), ⟨p1, d1, y1⟩, ⟨p2, d2, y2⟩])), ?_, fun W hW => ?_, gL_len _ _ SOm, gL_txt _ _ SOm⟩
        · exact grp_lift rfl rfl rfl (rGroup_any op _ _ 3 W8 (by simp) SOm ((FO.out W8 (Below.refl _ _)).take 3) (TB.out W8 (Below.refl _ _)))
        · exact grp_lift rfl (gR_np (AL.out 3)).1 (gR_np (AL.out 3)).2 (gGroup_any op _ _ 3 W (by simp) SRm ((FR.out W hW).take 3))
      obtain ⟨R, gl, RG1, RG2, hgl, htx⟩ := RG.out
      have RG1' : Hid (Calls Tryd.prog 7 #[.int .i64 op, .slice (some ⟨w3.heap.size, 0, none⟩) 3 3] W8 fun e w' => (∃ a' c' ys, e = .returned (.tuple #[.slice a' ys.length c', .int .i64 R]) ∧ FRow w' a' ys ∧ ys.map np = gl) ∧ Below W8.heap.size W8 w') := RG1
      have RG2' : Hid (∀ W, Below W8.heap.size W8 W → Calls Tryd.prog 8 #[.int .i64 op, .slice (some ⟨s3.heap.size, 0, none⟩) 3 3] W fun e w' => (∃ a' c' ys, e = .returned (.tuple #[.slice a' ys.length c', .int .i64 R]) ∧ FRow w' a' ys ∧ ys.map np = gl) ∧ Below W.heap.size W w') := RG2
      have hgl' : Hid (gl.length ≤ 1048577 ∧ ∀ t ∈ gl, t.2.2.2.2.2.1.length ≤ 1048576) := ⟨hgl, htx⟩
      have RR : (R != R) = false := by simp
      clear RG RG1 RG2 hgl htx FO FR SO SR AL TB
      have U1 : True := trivial
      go_upto_region 12 with (go_at_call 7; refine RG1'.out.mono ?_; rintro e t1 ⟨⟨qa, qc, qs, rfl, qf, qp⟩, b1⟩)
      have qf' : Hid (FRow t1 qa qs ∧ qs.map np = gl) := ⟨qf, qp⟩
      clear qf qp RG1'
      go_upto_region 13 with (go_at_call 8; refine (RG2'.out t1 b1).mono ?_; rintro e t2 ⟨⟨ra, rc, rs, rfl, rf, rp⟩, b2⟩)
      have SM : Hid (Calls Tryd.prog 9 #[.slice ra rs.length rc, .slice qa qs.length qc] t2 fun e w' => e = .returned (.bool true) ∧ Below t2.heap.size t2 w') := by
        have hb1 : ∀ x ∈ rs, x.l.length ≤ 1048576 := fun x hx => hgl'.out.2 (np x) (by rw [← rp]; exact List.mem_map.2 ⟨x, hx, rfl⟩)
        have hb2 : ∀ x ∈ qs, x.l.length ≤ 1048576 := fun x hx => hgl'.out.2 (np x) (by rw [← qf'.out.2]; exact List.mem_map.2 ⟨x, hx, rfl⟩)
        have hl1 : rs.length ≤ 1048577 := by have := congrArg List.length rp; rw [List.length_map] at this; have := hgl'.out.1; omega
        have hl2 : qs.length ≤ 1048577 := by have := congrArg List.length qf'.out.2; rw [List.length_map] at this; have := hgl'.out.1; omega
        have := sameF_any rs qs ra qa rc qc t2 hl1 hl2 hb1 hb2 rf (qf'.out.1.below b2)
        rw [fb_yes (by rw [rp, qf'.out.2])] at this
        exact this
      have B2 : Below W8.heap.size W8 t2 := b1.trans (b2.mono b1.size)
      clear RG2' rf rp qf' b1 b2 hgl' U1
      have V1 : True := trivial
      go_upto_region 15 with (first
        | (go_at_call 9; refine SM.out.mono ?_; rintro e t3 ⟨rfl, b3⟩; have B3 : Below W8.heap.size W8 t3 := B2.trans (b3.mono B2.size); obtain ⟨ce0, _, _⟩ := CE.out t3 B3; have V2 : True := trivial)
        | (clear V2; go_at_call 10; refine (SP0.out t3 B3).mono ?_; rintro e t4 ⟨rfl, b4⟩; have B4 : Below W8.heap.size W8 t4 := B3.trans (b4.mono B3.size); obtain ⟨_, ce1, _⟩ := CE.out t4 B4; have V3 : True := trivial)
        | (clear V3; go_at_call 10; refine (SP1.out t4 B4).mono ?_; rintro e t5 ⟨rfl, b5⟩; have B5 : Below W8.heap.size W8 t5 := B4.trans (b5.mono B4.size); obtain ⟨_, _, ce2⟩ := CE.out t5 B5; have V4 : True := trivial)
        | (clear V4; go_at_call 10; refine (SP2.out t5 B5).mono ?_; rintro e t6 ⟨rfl, b6⟩; have B6 : Below W8.heap.size W8 t6 := B5.trans (b6.mono B5.size)))
      go_wp2_with (go_at_call 8; refine (NIL.out t6).mono ?_; rintro e t7 ⟨⟨na, nc, ns, rfl, nf⟩, b7⟩)
      go_ret
      exact ⟨rfl, by have h6 := BW'.out.trans (B6.mono BW'.out.size); exact h6.trans (b7.mono h6.size)⟩
end Go.Proofs.YtofghgggllfafaaDoor
