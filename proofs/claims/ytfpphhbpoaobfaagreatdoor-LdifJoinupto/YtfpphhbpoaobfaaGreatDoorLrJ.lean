import Derived.Test.YtfpphhbpoaobfaaGreatDoorLrI
namespace Go.Proofs.YtfpphhbpoaobfaaGreatDoor
namespace Lr
open Go.RowKit
set_option linter.unusedVariables false
set_option maxRecDepth 100000

theorem num_any (x : Int) (w : World) : Calls Tryz.prog 9 #[.int .i64 x] w fun e w' => e = .returned (.int .i64 x) ∧ w' = w := by
  go_enter Tryz.func9, Tryz.ntmps9
  go_wp2_with fail
  go_ret
  exact ⟨rfl, rfl⟩

theorem PO.row {B : Nat} {r : RX} {W : World} (h : PO B r W) : PRow W r.2.2.1 r.2.2.2.2 ∧ r.2.2.2.2.length + 1 ≤ r.2.2.2.1 ∧ r.2.2.2.1 ≤ maxLen := by
  obtain ⟨g, e, h1⟩ := h
  obtain ⟨a, c, h2, h3, h4, h5⟩ := h1.row pV_len
  injection h2 with e1 _ e2
  subst e1 e2
  rw [List.length_append] at h3
  rw [e]
  exact ⟨h5.front, h3, h4⟩
theorem PO.spare {B : Nat} {r : RX} {W : World} (h : PO B r W) : ∃ g, r.2.2.1 = some ⟨g, 0, none⟩ ∧ W.cell? ⟨g, r.2.2.2.2.length * 2, none⟩ = some (.string (S sprB)) ∧ W.cell? ⟨g, r.2.2.2.2.length * 2 + 1, none⟩ = some (.string (S r.2.1)) := by
  obtain ⟨g, e, h1⟩ := h
  obtain ⟨a, c, h2, h3, h4, h5⟩ := h1.row pV_len
  injection h2 with e1 _ e2
  subst e1 e2
  obtain ⟨b, off, ea, p1, p2⟩ := prow_at h5 r.2.2.2.2.length (by simp)
  injection ea with ea
  injection ea with ea eb
  subst ea eb
  rw [List.getElem_append_right (by omega)] at p1 p2
  simp only [Nat.sub_self, List.getElem_cons_zero, Nat.zero_add] at p1 p2
  exact ⟨g, e, p1, p2⟩
theorem CpQ.rrow {w : World} {L : List RX} {n : Nat} {a : Option Addr} {c : Nat} {Os : List RX} {w' : World} (h : CpQ w L n a c Os w') : RRow w' a Os :=
  ⟨h.2.2.2.1.front, fun r hr => ⟨(h.2.2.2.2.2.1 r hr).row.1, by have := (h.2.2.2.2.2.1 r hr).row.2.1; omega, (h.2.2.2.2.2.1 r hr).row.2.2⟩⟩
theorem CpQ.below {w : World} {L : List RX} {n : Nat} {a : Option Addr} {c : Nat} {Os : List RX} {w' W : World} (h : CpQ w L n a c Os w') (hb : Below w'.heap.size w' W) : CpQ w L n a c Os W := by
  obtain ⟨h1, h2, h3, h4, h5, h6, h7⟩ := h
  exact ⟨h1, h2, h3, h4.below rV_len hb, h5, fun r hr => (h6 r hr).below hb, h7.trans (hb.mono h7.size)⟩
theorem CpQ.said {w : World} {L : List RX} {n : Nat} {a : Option Addr} {c : Nat} {Os : List RX} {w' : World} (h : CpQ w L n a c Os w') (hn : L.length = n) : Os.map said = L.map said := by
  refine List.ext_getElem (by rw [List.length_map, List.length_map, h.1, hn]) (fun i h1 h2 => ?_)
  rw [List.getElem_map, List.getElem_map]
  exact (h.2.2.2.2.1 i (by simpa using h1) (by simpa using h2)).2

set_option maxHeartbeats 2000000 in
theorem untouched_any (w0 : World) (a b : Option Addr) (c d : Nat) (Os L : List RX) (n : Nat) (w : World) (hn : L.length = n) (hz : wt (L.map said) ≤ 1048576) (hr : RRow w b L) (hQ : CpQ w0 L n a c Os w) :
    Calls Tryz.prog 20 #[.slice a n c, .slice b n d] w fun e w' => e = .returned (.bool true) ∧ Below w.heap.size w w' := by
  have hlen := wt_len (L.map said)
  rw [List.length_map] at hlen
  have nb : (n : Int) ≤ 1048576 := by omega
  have hzi : ∀ r ∈ L, r.2.2.2.2.length ≤ 1048576 := fun r hr => Nat.le_trans (wp_len (said r)) (Nat.le_trans (wr_le _ _ (List.mem_map_of_mem hr)) hz)
  have hOL : ∀ r ∈ Os, r.2.2.2.2.length ≤ 1048576 := fun r hr => by
    have hm : said r ∈ L.map said := by rw [← hQ.said hn]; exact List.mem_map_of_mem hr
    exact Nat.le_trans (wp_len (said r)) (Nat.le_trans (wr_le _ _ hm) hz)
  have hS : Hid (Calls Tryz.prog 18 #[.slice a n c, .slice b n d, .bool true] w fun e w' => e = .returned (.bool true) ∧ Below w.heap.size w w') :=
    sameRecords_any a b c d Os L n w hQ.1 hn (by omega) hQ.rrow hr (fun i h h' => hQ.2.2.2.2.1 i h h') (fun r hr => Nat.le_trans (hOL r hr) (by decide))
  have hQ' : Hid (CpQ w0 L n a c Os w) := hQ
  have hr' : Hid (RRow w b L) := hr
  have hz' : Hid (∀ r ∈ L, r.2.2.2.2.length ≤ 1048576) := hzi
  have hn' : Hid (L.length = n) := hn
  obtain ⟨ba, oa, ha, z1, _, _⟩ : ∃ ba oa, a = some ⟨ba, oa, none⟩ ∧ w.cell? ⟨ba, oa + n * 3, none⟩ = some (.int .i64 (-77)) ∧ True ∧ True := by
    obtain ⟨b', o', e, h1⟩ := hQ.2.2.2.1 n (by rw [List.length_append, hQ.1]; simp)
    have h2 := h1 0 (by omega)
    have e0 : (Os ++ [zR])[n]'(by rw [List.length_append, hQ.1]; simp) = zR := by rw [List.getElem_append_right (by rw [hQ.1]; exact Nat.le_refl _)]; simp
    rw [e0] at h2
    exact ⟨b', o', e, h2, trivial, trivial⟩
  subst ha
  have hsl : ∀ X, (Instr.sliceAt 28 (.slice (some ⟨ba, oa, none⟩) n c) none (some (.int .i64 ((n : Int) + 1))) none).run Tryz.prog X = .ok (.slice (some ⟨ba, oa, none⟩) (n + 1) c) X := fun X => halfR (some ⟨ba, oa, none⟩) n c (n + 1) _ (by simp) hQ.2.1 X
  have n0 : (0 : Int) ≤ (n : Int) := Int.natCast_nonneg _
  have n1 : (n : Int) < ((n + 1 : Nat) : Int) := by omega
  have hz1 : Hid (w.cell? ⟨ba, oa + n * 3, none⟩ = some (.int .i64 (-77))) := z1
  clear hlen hzi hOL hz hQ hr hn z1
  go_enter Tryz.func20, Tryz.ntmps20
  go_wp2_with (go_at_call 18; refine hS.out.mono ?_; rintro e w1 ⟨rfl, hb1⟩; have H1 : Hid (Below w.heap.size w w1) := hb1; have z2 : w1.cell? ⟨ba, oa + n * 3, none⟩ = some (.int .i64 (-77)) := (by rw [hb1.cell (World.block_lt_of_cell? w _ hz1.out)]; exact hz1.out); clear hb1)
  go_loopw [7] (fun iv wr => ∃ i q : Nat, i ≤ n ∧ iv = .int .i64 (i : Int) ∧ Hid (wr = w1.drewN q)) (fun iv _ => n - (intOf iv).toNat)
  case atStart => exact ⟨0, 0, Nat.zero_le _, rfl, rfl⟩
  case round =>
    obtain ⟨i, q, hi, rfl, hw⟩ := hrel
    clear z2
    have i0 : (0 : Int) ≤ (i : Int) := Int.natCast_nonneg _
    have hB : Hid (Below w.heap.size w wr) := by unfold Hid; rw [hw.out]; exact H1.out.trans ((drewN_below w1 w1.heap.size q).mono H1.out.size)
    by_cases hlt : i < n
    · have i1 : (i : Int) < (n : Int) := Int.ofNat_lt.2 hlt
      have hiL : i < L.length := by rw [hn'.out]; exact hlt
      have hiO : i < Os.length := by rw [hQ'.out.1]; exact hlt
      obtain ⟨b1, o1, e1, c0, c1, c2⟩ := rrow_at (hQ'.out.rrow.below hB.out) i hiO
      injection e1 with e1
      injection e1 with e1 e2
      subst e1 e2
      obtain ⟨b2, o2, rfl, d0, d1, d2⟩ := rrow_at (hr'.out.below hB.out) i hiL
      have hP := (hQ'.out.2.2.2.2.2.1 _ (List.getElem_mem hiO)).below hB.out
      have hsi := hQ'.out.2.2.2.2.1 i hiO hiL
      have hzj := hz'.out _ (List.getElem_mem hiL)
      obtain ⟨⟨ln, nm, pa, pc, ps⟩, hx⟩ : ∃ x, Os[i] = x := ⟨_, rfl⟩
      obtain ⟨⟨ln', nm', pa', pc', ps'⟩, hy⟩ : ∃ y, L[i] = y := ⟨_, rfl⟩
      rw [hx] at c0 c1 c2 hP hsi
      rw [hy] at d0 d1 d2 hsi hzj
      dsimp only [Lr.said] at c0 c1 c2 d0 d1 d2 hsi hzj
      obtain ⟨rfl, hsi⟩ := hsi
      injection hsi with e1 e2
      subst e1 e2
      obtain ⟨g, hg, s1, s2⟩ := hP.spare
      have hcap := hP.row.2.1
      dsimp only at hg s1 s2 hcap
      subst hg
      obtain ⟨N, hN⟩ : ∃ N, S nm = N := ⟨_, rfl⟩
      obtain ⟨m, hm⟩ : ∃ m, ps.length = m := ⟨_, rfl⟩
      rw [hN] at d1 s2
      rw [hm] at c2 d2 s1 s2 hcap hzj
      have hsp : S sprB = { data := #[115, 112, 97, 114, 101] } := rfl
      rw [hsp] at s1
      have hsl2 : ∀ X, (Instr.sliceAt 34 (.slice (some ⟨g, 0, none⟩) m pc) none (some (.int .i64 ((m : Int) + 1))) none).run Tryz.prog X = .ok (.slice (some ⟨g, 0, none⟩) (m + 1) pc) X := fun X => halfP (some ⟨g, 0, none⟩) m pc (m + 1) _ (by simp) hcap X
      have m0 : (0 : Int) ≤ (m : Int) := Int.natCast_nonneg _
      have m1 : (m : Int) < ((m + 1 : Nat) : Int) := by omega
      have mb : (m : Int) ≤ 1048576 := by omega
      have z0 : 0 + m * 2 = m * 2 := Nat.zero_add _
      have hlt' : Hid (i < n) := hlt
      clear hx hy hN hm c0 c1 hP hiL hiO hlt hi hsp hcap hzj d0
      go_upto_region 12 with fail
      go_quiet (fail)
      go_wp2_with fail
      go_roundw
      case rel => exact ⟨i + 1, _, hlt'.out, by simp, by unfold Hid; rw [hw.out, World.drewN_drewN]⟩
      case measure => have := hlt'.out; simp [intOf]; omega
    · have e : n = i := by omega
      subst e
      have i1 : ¬ (n : Int) < (n : Int) := by omega
      clear hi hlt
      go_wp2_with fail
      go_ret
      exact ⟨rfl, hB.out⟩
end Lr
end Go.Proofs.YtfpphhbpoaobfaaGreatDoor
