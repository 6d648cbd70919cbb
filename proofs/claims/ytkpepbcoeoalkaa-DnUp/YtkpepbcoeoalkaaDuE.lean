import Derived.Test.YtkpepbcoeoalkaaDuD
namespace Go.Proofs.Ytkpepbcoeoalkaa
namespace Du
open Go.RowKit Go.Lib
set_option linter.unusedVariables false
set_option maxRecDepth 100000

/-- A name of a list: where it lies, its room, its parts. -/
abbrev DX := Option Addr × Nat × List PX
def yV (x : DX) : List Value := [.slice x.1 x.2.2.length x.2.1]
theorem yV_len (x : DX) : (yV x).length = 1 := rfl
theorem info_dn : (Try.prog.info? 23).map (fun i => (i.zero, i.size, i.bytes)) = some (some (.slice none 0 0), 1, 24) := by kernel_rfl
theorem KDy : Kd 23 24 1 24 yV := by
  obtain ⟨i0, hi, hz0, hz1, hz2⟩ := info_parts info_dn
  exact ⟨Try.underlying24, ⟨i0, _, hi, hz0, hz1, hz2, rfl⟩, by decide, by decide, yV_len, fun x u hu => by simp [yV] at hu; rcases hu with rfl; rfl⟩
def upx (sa : Option Addr) (c : Nat) (L : List PX) (k : Nat) : DX := (cutA sa k c, c - k, L.drop k)
def upl (sa : Option Addr) (c : Nat) (L : List PX) (i : Nat) : List DX := (List.range i).map (upx sa c L)
theorem upl_len (sa : Option Addr) (c : Nat) (L : List PX) (i : Nat) : (upl sa c L i).length = i := by simp [upl]
theorem upl_snoc (sa : Option Addr) (c : Nat) (L : List PX) (i : Nat) : upl sa c L (i + 1) = upl sa c L i ++ [upx sa c L i] := by simp [upl, List.range_succ]
set_option maxHeartbeats 2000000 in
theorem refUp_any (sa : Option Addr) (sc : Nat) (L : List PX) (n : Nat) (w : World) (hn : L.length = n) (hl : n ≤ 5864062014634) :
    Calls Try.prog 4 #[.slice sa n sc] w fun e w' => ∃ oa oc, e = .returned (.slice oa (n + 1) oc) ∧ GOwn 23 1 yV w' w.heap.size (.slice oa (n + 1) oc) (upl sa sc L (n + 1)) ∧ Below w.heap.size w w' := by
  have nb : (n : Int) ≤ 5864062014634 := by omega
  have hn' : Hid (L.length = n) := hn
  clear hn hl
  go_enter Try.func4, Try.ntmps4
  go_wp2_with fail
  go_loopw [3, 4] (fun v iv wr => ∃ (j : Nat) (oa : Option Addr) (on oc : Nat), iv = .int .i64 (j : Int) ∧ v = .slice oa on oc ∧ j ≤ n + 1 ∧ Hid (on = j ∧ GOwn 23 1 yV wr w.heap.size (.slice oa on oc) (upl sa sc L j) ∧ Below w.heap.size w wr)) (fun _ iv _ => n + 1 - (intOf iv).toNat)
  case atStart => exact ⟨0, none, 0, 0, rfl, rfl, Nat.zero_le _, rfl, GOwn.nil _ _ _ _ _, Below.refl _ _⟩
  case round =>
    obtain ⟨j, oa, on, oc, rfl, rfl, hj, hQ⟩ := hrel
    have j0 : (0 : Int) ≤ (j : Int) := Int.natCast_nonneg _
    by_cases hlt : j ≤ n
    · have j1 : (j : Int) ≤ (n : Int) := Int.ofNat_le.2 hlt
      have hsl : ∀ X, (Instr.sliceAt 23 (.slice sa n sc) (some (.int .i64 (j : Int))) none none).run Try.prog X = .ok (.slice (cutA sa j sc) (n - j) (sc - j)) X := fun X => slice_from _ n sc j _ rfl hlt X
      obtain ⟨q1, q2, q3⟩ := hQ.out
      have ba : Below wr.heap.size wr (wr.alloc (.cells #[.slice (cutA sa j sc) (n - j) (sc - j)] 23)) := (Below.refl _ _).alloc (Nat.le_refl _) _
      have hone : GRow 1 yV (wr.alloc (.cells #[.slice (cutA sa j sc) (n - j) (sc - j)] 23)) (some ⟨wr.heap.size, 0, none⟩) [upx sa sc L j] := by
        have := GRow.one (k := 1) yV wr 23 (upx sa sc L j)
        have e : (L.drop j).length = n - j := by rw [List.length_drop, hn'.out]
        simp only [yV, upx, e] at this
        exact this
      obtain ⟨v4, w4, e4, o4, g4, b4⟩ := append_gen KDy (wr.alloc (.cells #[.slice (cutA sa j sc) (n - j) (sc - j)] 23)) w.heap.size (.slice oa on oc) (upl sa sc L j) [upx sa sc L j] (some ⟨wr.heap.size, 0, none⟩) 1 1 (q2.below ba) hone rfl (by have := q3.size; simp; omega) (by rw [upl_len]; simp; omega)
      rw [← upl_snoc] at o4
      obtain ⟨a4, c4, rfl, _, _, _⟩ := o4.row yV_len
      rw [upl_len] at e4 o4
      have hfin : Hid (j + 1 = j + 1 ∧ GOwn 23 1 yV w4 w.heap.size (.slice a4 (j + 1) c4) (upl sa sc L (j + 1)) ∧ Below w.heap.size w w4) := ⟨rfl, o4, (q3.trans (ba.mono q3.size)).trans b4⟩
      have hlt' : Hid (j ≤ n) := hlt
      generalize cutA sa j sc = ca at *
      clear q1 q2 q3 ba hone o4 g4 b4 hQ hlt hj
      go_wp2_with (at_builtin; refine Lib.wpList_append_run _ rfl _ _ _ _ rfl _ _ rfl rfl _ _ e4 ?_; clear e4)
      go_roundw
      case rel => exact ⟨j + 1, _, _, _, by simp, rfl, by have := hlt'.out; omega, hfin⟩
      case measure => have := hlt'.out; simp [intOf]; omega
    · have e : j = n + 1 := by omega
      subst e
      have j1 : ¬ ((n + 1 : Nat) : Int) ≤ (n : Int) := by omega
      obtain ⟨rfl, q2, q3⟩ := hQ.out
      have hfin : Hid (GOwn 23 1 yV wr w.heap.size (.slice oa (n + 1) oc) (upl sa sc L (n + 1)) ∧ Below w.heap.size w wr) := ⟨q2, q3⟩
      clear q2 q3 hQ hlt hj
      go_wp2_with fail
      go_ret
      exact ⟨oa, oc, rfl, hfin.out⟩
/-- What spared reads. -/
theorem PO.row {B : Nat} {r : PX} {W : World} (h : PO B r W) : PRow W r.1 r.2.2 ∧ r.2.2.length + 1 ≤ r.2.1 ∧ r.2.1 ≤ maxLen := by
  obtain ⟨g, e, h1⟩ := h
  obtain ⟨a, c, h2, h3, h4, h5⟩ := h1.row pV_len
  injection h2 with e1 _ e2
  subst e1 e2
  rw [List.length_append] at h3
  rw [e]
  exact ⟨h5.front, h3, h4⟩
theorem PO.spare {B : Nat} {r : PX} {W : World} (h : PO B r W) : ∃ g, r.1 = some ⟨g, 0, none⟩ ∧ W.cell? ⟨g, r.2.2.length * 2, none⟩ = some (.string (S sprB)) := by
  obtain ⟨g, e, h1⟩ := h
  obtain ⟨a, c, h2, h3, h4, h5⟩ := h1.row pV_len
  injection h2 with e1 _ e2
  subst e1 e2
  obtain ⟨b, off, ea, p1, p2⟩ := prow_at h5 r.2.2.length (by simp)
  injection ea with ea
  injection ea with ea eb
  subst ea eb
  rw [List.getElem_append_right (by omega)] at p1 p2
  simp only [Nat.sub_self, List.getElem_cons_zero, Nat.zero_add] at p1 p2
  exact ⟨g, e, p1⟩
theorem CpQ.grow {w : World} {L : List PX} {n : Nat} {a : Option Addr} {c : Nat} {Os : List PX} {w' : World} (h : CpQ w L n a c Os w') : DRow w' a Os ∧ ∃ g zg, a = some ⟨g, 0, none⟩ ∧ w'.cell? ⟨g, n, none⟩ = some (.slice (some ⟨zg, 0, none⟩) 1 1) ∧ w'.cell? ⟨zg, 0, none⟩ = some (.string (S sprB)) := by
  obtain ⟨h1, h2, h3, ⟨g, zg, rfl, h4, h4'⟩, h5, h6, h7, h8⟩ := h
  obtain ⟨a, c, e, _, _, hr⟩ := h4.row xV_len
  injection e with e1 _ e2
  subst e1
  refine ⟨⟨hr.front, fun r hr => ⟨(h6 r hr).row.1, by have := (h6 r hr).row.2.1; omega, (h6 r hr).row.2.2⟩⟩, g, zg, rfl, ?_, ?_⟩
  · obtain ⟨b, off, e, h9⟩ := hr n (by rw [List.length_append, h1]; simp)
    injection e with e
    injection e with e1 e2
    subst e1 e2
    have := h9 0 (by omega)
    rw [List.getElem_append_right (by omega)] at this
    simpa [h1, xV] using this
  · obtain ⟨b, off, e, p1, p2⟩ := prow_at h4' 0 (by simp)
    injection e with e
    injection e with e1 e2
    subst e1 e2
    simpa using p1
theorem CpQ.sd {w : World} {L : List PX} {n : Nat} {a : Option Addr} {c : Nat} {Os : List PX} {w' : World} (h : CpQ w L n a c Os w') (hn : L.length = n) : Du.sd Os = Du.sd L := by
  unfold Du.sd
  refine List.ext_getElem (by rw [List.length_map, List.length_map, h.1, hn]) (fun i h1 h2 => ?_)
  rw [List.getElem_map, List.getElem_map]
  exact h.2.2.2.2.1 i (by simpa using h1) (by simpa using h2)
theorem CpQ.below {w : World} {L : List PX} {n : Nat} {a : Option Addr} {c : Nat} {Os : List PX} {w' W : World} (h : CpQ w L n a c Os w') (hb : Below w'.heap.size w' W) : CpQ w L n a c Os W := by
  obtain ⟨h1, h2, h3, ⟨g, zg, e, h4, h4'⟩, h5, h6, h7, h8⟩ := h
  exact ⟨h1, h2, h3, ⟨g, zg, e, h4.below hb, h4'.below pV_len hb⟩, h5, fun r hr => (h6 r hr).below hb, h7.trans (hb.mono h7.size), h8⟩
set_option maxHeartbeats 2000000 in
theorem spared_any (w0 : World) (a b : Option Addr) (c d : Nat) (Os L : List PX) (n : Nat) (w : World) (hn : L.length = n) (hz : ∀ r ∈ L, r.2.2.length ≤ 4398046510976) (hl : n ≤ 5864062014634) (hr : DRow w b L) (hQ : CpQ w0 L n a c Os w) :
    Calls Try.prog 7 #[.slice a n c, .slice b n d] w fun e w' => e = .returned (.bool true) ∧ ∃ q, w' = w.drewN q := by
  have nb : (n : Int) ≤ 5864062014634 := by omega
  have hzO : ∀ r ∈ Os, r.2.2.length ≤ 4398046510976 := fun r hr => by
    obtain ⟨i, hi, rfl⟩ := List.mem_iff_getElem.1 hr
    have hiL : i < L.length := by have := hQ.1; omega
    rw [hQ.2.2.2.2.1 i hi hiL]
    exact hz _ (List.getElem_mem hiL)
  obtain ⟨hD, ga, zg, ha, z1, z2⟩ := hQ.grow
  have hS : Hid (Calls Try.prog 9 #[.slice a n c, .slice b n d] w fun e w' => e = .returned (.bool true) ∧ ∃ q, w' = w.drewN q) :=
    sameDN_any a b c d Os L n w hQ.1 hn hl hD hr (hQ.sd hn) hzO
  subst ha
  have hQ' : Hid (CpQ w0 L n (some ⟨ga, 0, none⟩) c Os w) := hQ
  have hD' : Hid (DRow w (some ⟨ga, 0, none⟩) Os) := hD
  have hz' : Hid (∀ r ∈ Os, r.2.2.length ≤ 4398046510976) := hzO
  have hsl : ∀ X, (Instr.sliceAt 23 (.slice (some ⟨ga, 0, none⟩) n c) none (some (.int .i64 ((n : Int) + 1))) none).run Try.prog X = .ok (.slice (some ⟨ga, 0, none⟩) (n + 1) c) X := fun X => halfD _ n c (n + 1) _ (by simp) hQ.2.1 X
  have n0 : (0 : Int) ≤ (n : Int) := Int.natCast_nonneg _
  have n1 : (n : Int) < ((n + 1 : Nat) : Int) := by omega
  have hzz : Hid (∀ q, (w.drewN q).cell? ⟨ga, n, none⟩ = some (.slice (some ⟨zg, 0, none⟩) 1 1) ∧ (w.drewN q).cell? ⟨zg, 0, none⟩ = some (.string (S sprB))) := fun q => ⟨z1, z2⟩
  have hsp : S sprB = { data := #[115, 112, 97, 114, 101, 32, 114, 111, 111, 109] } := rfl
  rw [hsp] at hzz
  clear hzO hz hQ hr hn z1 z2 hD hl hsp
  go_enter Try.func7, Try.ntmps7
  go_wp2_with (go_at_call 9; refine hS.out.mono ?_; rintro e w1 ⟨rfl, q1, hw1⟩; have H1 : Hid (w1 = w.drewN q1) := hw1; clear hw1)
  go_loopw [5] (fun iv wr => ∃ i q : Nat, i ≤ n ∧ iv = .int .i64 (i : Int) ∧ Hid (wr = w.drewN q)) (fun iv _ => n - (intOf iv).toNat)
  case atStart => exact ⟨0, q1, Nat.zero_le _, rfl, H1⟩
  case round =>
    obtain ⟨i, q, hi, rfl, hw⟩ := hrel
    have i0 : (0 : Int) ≤ (i : Int) := Int.natCast_nonneg _
    by_cases hlt : i < n
    · have i1 : (i : Int) < (n : Int) := Int.ofNat_lt.2 hlt
      have hiO : i < Os.length := by rw [hQ'.out.1]; exact hlt
      obtain ⟨b1, o1, e1, c0⟩ := drow_at hD'.out i hiO
      injection e1 with e1
      injection e1 with e1 e2
      subst e1 e2
      have hP := hQ'.out.2.2.2.2.2.1 _ (List.getElem_mem hiO)
      have hzj := hz'.out _ (List.getElem_mem hiO)
      obtain ⟨⟨pa, pc, ps⟩, hx⟩ : ∃ x, Os[i] = x := ⟨_, rfl⟩
      rw [hx] at c0 hP hzj
      dsimp only at c0 hzj
      obtain ⟨g, hg, s1⟩ := hP.spare
      have hcap := hP.row.2.1
      dsimp only at hg s1 hcap
      subst hg
      obtain ⟨m, hm⟩ : ∃ m, ps.length = m := ⟨_, rfl⟩
      rw [hm] at c0 s1 hcap hzj
      have hE : ∀ a, wr.cell? a = w.cell? a := fun a => by rw [hw.out]; rfl
      rw [← hE] at c0 s1
      rw [Nat.zero_add] at c0
      have hsp : S sprB = { data := #[115, 112, 97, 114, 101, 32, 114, 111, 111, 109] } := rfl
      rw [hsp] at s1
      have hsl2 : ∀ X, (Instr.sliceAt 36 (.slice (some ⟨g, 0, none⟩) m pc) none (some (.int .i64 ((m : Int) + 1))) none).run Try.prog X = .ok (.slice (some ⟨g, 0, none⟩) (m + 1) pc) X := fun X => halfP (some ⟨g, 0, none⟩) m pc (m + 1) _ (by simp) hcap X
      have m0 : (0 : Int) ≤ (m : Int) := Int.natCast_nonneg _
      have m1 : (m : Int) < ((m + 1 : Nat) : Int) := by omega
      have mb : (m : Int) ≤ 4398046510976 := by omega
      have z0 : 0 + m * 2 = m * 2 := Nat.zero_add _
      have hlt' : Hid (i < n) := hlt
      clear hx hm hP hiO hlt hi hsp hcap hzj hE
      go_upto_region 6 with fail
      go_quiet (fail)
      have s1' : (wr.drewN 1).cell? ⟨g, m * 2, none⟩ = some (.string { data := #[115, 112, 97, 114, 101, 32, 114, 111, 111, 109] }) := s1
      go_wp2_with fail
      go_roundw
      case rel => exact ⟨i + 1, _, hlt'.out, by simp, by unfold Hid; rw [hw.out, World.drewN_drewN]⟩
      case measure => have := hlt'.out; simp [intOf]; omega
    · have e : n = i := by omega
      subst e
      have i1 : ¬ (n : Int) < (n : Int) := by omega
      have hcc := hzz.out q
      rw [← hw.out] at hcc
      obtain ⟨f1, f2⟩ := hcc
      clear hi hlt
      go_wp2_with fail
      go_ret
      exact ⟨rfl, _, hw.out⟩
end Du
end Go.Proofs.Ytkpepbcoeoalkaa
