import Derived.Test.YtfmhcgadgakbhaaDoorDuB
import Derived.Test.YtfmhcgadgakbhaaDoorDuA
namespace Go.Proofs.YtfmhcgadgakbhaaDoor
namespace Du
open Go.RowKit Go.Lib
set_option linter.unusedVariables false
set_option maxRecDepth 100000
theorem PO.row {B : Nat} {r : PX} {W : World} (h : PO B r W) : PRow W r.1 r.2.2 ∧ r.2.2.length + 1 ≤ r.2.1 ∧ r.2.1 ≤ maxLen := by
  obtain ⟨g, e, h1⟩ := h
  obtain ⟨a, c, h2, h3, h4, h5⟩ := h1.row pV_len
  injection h2 with e1 _ e2
  subst e1 e2
  rw [List.length_append] at h3
  rw [e]
  exact ⟨h5.front, h3, h4⟩
theorem PO.spare {B : Nat} {r : PX} {W : World} (h : PO B r W) : ∃ g, r.1 = some ⟨g, 0, none⟩ ∧ W.cell? ⟨g, r.2.2.length * 2, none⟩ = some (.string (S sprB)) := by
  obtain ⟨g, e, h1⟩ := h
  obtain ⟨a, c, h2, h3, h4, h5⟩ := h1.row pV_len
  injection h2 with e1 _ e2
  subst e1 e2
  obtain ⟨b, off, ea, p1, p2⟩ := prow_at h5 r.2.2.length (by simp)
  injection ea with ea
  injection ea with ea eb
  subst ea eb
  rw [List.getElem_append_right (by omega)] at p1 p2
  simp only [Nat.sub_self, List.getElem_cons_zero, Nat.zero_add] at p1 p2
  exact ⟨g, e, p1⟩
theorem CpQ.grow {w : World} {L : List PX} {n : Nat} {a : Option Addr} {c : Nat} {Os : List PX} {w' : World} (h : CpQ w L n a c Os w') : DRow w' a Os ∧ ∃ g zg, a = some ⟨g, 0, none⟩ ∧ w'.cell? ⟨g, n, none⟩ = some (.slice (some ⟨zg, 0, none⟩) 1 1) ∧ w'.cell? ⟨zg, 0, none⟩ = some (.string (S sprB)) := by
  obtain ⟨h1, h2, h3, ⟨g, zg, rfl, h4, h4'⟩, h5, h6, h7, h8⟩ := h
  obtain ⟨a, c, e, _, _, hr⟩ := h4.row xV_len
  injection e with e1 _ e2
  subst e1
  refine ⟨⟨hr.front, fun r hr => ⟨(h6 r hr).row.1, by have := (h6 r hr).row.2.1; omega, (h6 r hr).row.2.2⟩⟩, g, zg, rfl, ?_, ?_⟩
  · obtain ⟨b, off, e, h9⟩ := hr n (by rw [List.length_append, h1]; simp)
    injection e with e
    injection e with e1 e2
    subst e1 e2
    have := h9 0 (by omega)
    rw [List.getElem_append_right (by omega)] at this
    simpa [h1, xV] using this
  · obtain ⟨b, off, e, p1, p2⟩ := prow_at h4' 0 (by simp)
    injection e with e
    injection e with e1 e2
    subst e1 e2
    simpa using p1
theorem CpQ.sd {w : World} {L : List PX} {n : Nat} {a : Option Addr} {c : Nat} {Os : List PX} {w' : World} (h : CpQ w L n a c Os w') (hn : L.length = n) : Du.sd Os = Du.sd L := by
  unfold Du.sd
  refine List.ext_getElem (by rw [List.length_map, List.length_map, h.1, hn]) (fun i h1 h2 => ?_)
  rw [List.getElem_map, List.getElem_map]
  exact h.2.2.2.2.1 i (by simpa using h1) (by simpa using h2)
theorem CpQ.below {w : World} {L : List PX} {n : Nat} {a : Option Addr} {c : Nat} {Os : List PX} {w' W : World} (h : CpQ w L n a c Os w') (hb : Below w'.heap.size w' W) : CpQ w L n a c Os W := by
  obtain ⟨h1, h2, h3, ⟨g, zg, e, h4, h4'⟩, h5, h6, h7, h8⟩ := h
  exact ⟨h1, h2, h3, ⟨g, zg, e, h4.below hb, h4'.below pV_len hb⟩, h5, fun r hr => (h6 r hr).below hb, h7.trans (hb.mono h7.size), h8⟩
set_option maxHeartbeats 2000000 in
theorem spared_any (w0 : World) (a b : Option Addr) (c d : Nat) (Os L : List PX) (n : Nat) (w : World) (hn : L.length = n) (hz : ∀ r ∈ L, r.2.2.length ≤ 4398046510976) (hl : n ≤ 5864062014634) (hr : DRow w b L) (hQ : CpQ w0 L n a c Os w) :
    Calls Tryd.prog 8 #[.slice a n c, .slice b n d] w fun e w' => e = .returned (.bool true) ∧ ∃ q, w' = w.drewN q := by
  have nb : (n : Int) ≤ 5864062014634 := by omega
  have hzO : ∀ r ∈ Os, r.2.2.length ≤ 4398046510976 := fun r hr => by
    obtain ⟨i, hi, rfl⟩ := List.mem_iff_getElem.1 hr
    have hiL : i < L.length := by have := hQ.1; omega
    rw [hQ.2.2.2.2.1 i hi hiL]
    exact hz _ (List.getElem_mem hiL)
  obtain ⟨hD, ga, zg, ha, z1, z2⟩ := hQ.grow
  have hS : Hid (Calls Tryd.prog 17 #[.slice a n c, .slice b n d] w fun e w' => e = .returned (.bool true) ∧ ∃ q, w' = w.drewN q) :=
    sameDN_any a b c d Os L n w hQ.1 hn hl hD hr (hQ.sd hn) hzO
  subst ha
  have hQ' : Hid (CpQ w0 L n (some ⟨ga, 0, none⟩) c Os w) := hQ
  have hD' : Hid (DRow w (some ⟨ga, 0, none⟩) Os) := hD
  have hz' : Hid (∀ r ∈ Os, r.2.2.length ≤ 4398046510976) := hzO
  have hsl : ∀ X, (Instr.sliceAt 23 (.slice (some ⟨ga, 0, none⟩) n c) none (some (.int .i64 ((n : Int) + 1))) none).run Tryd.prog X = .ok (.slice (some ⟨ga, 0, none⟩) (n + 1) c) X := fun X => halfD _ n c (n + 1) _ (by simp) hQ.2.1 X
  have n0 : (0 : Int) ≤ (n : Int) := Int.natCast_nonneg _
  have n1 : (n : Int) < ((n + 1 : Nat) : Int) := by omega
  have hzz : Hid (∀ q, (w.drewN q).cell? ⟨ga, n, none⟩ = some (.slice (some ⟨zg, 0, none⟩) 1 1) ∧ (w.drewN q).cell? ⟨zg, 0, none⟩ = some (.string (S sprB))) := fun q => ⟨z1, z2⟩
  have hsp : S sprB = { data := #[115, 112, 97, 114, 101, 32, 114, 111, 111, 109] } := rfl
  rw [hsp] at hzz
  clear hzO hz hQ hr hn z1 z2 hD hl hsp
  go_enter Tryd.func8, Tryd.ntmps8
  go_wp2_with (go_at_call 17; refine hS.out.mono ?_; rintro e w1 ⟨rfl, q1, hw1⟩; have H1 : Hid (w1 = w.drewN q1) := hw1; clear hw1)
  go_loopw [5] (fun iv wr => ∃ i q : Nat, i ≤ n ∧ iv = .int .i64 (i : Int) ∧ Hid (wr = w.drewN q)) (fun iv _ => n - (intOf iv).toNat)
  case atStart => exact ⟨0, q1, Nat.zero_le _, rfl, H1⟩
  case round =>
    obtain ⟨i, q, hi, rfl, hw⟩ := hrel
    have i0 : (0 : Int) ≤ (i : Int) := Int.natCast_nonneg _
    by_cases hlt : i < n
    · have i1 : (i : Int) < (n : Int) := Int.ofNat_lt.2 hlt
      have hiO : i < Os.length := by rw [hQ'.out.1]; exact hlt
      obtain ⟨b1, o1, e1, c0⟩ := drow_at hD'.out i hiO
      injection e1 with e1
      injection e1 with e1 e2
      subst e1 e2
      have hP := hQ'.out.2.2.2.2.2.1 _ (List.getElem_mem hiO)
      have hzj := hz'.out _ (List.getElem_mem hiO)
      obtain ⟨⟨pa, pc, ps⟩, hx⟩ : ∃ x, Os[i] = x := ⟨_, rfl⟩
      rw [hx] at c0 hP hzj
      dsimp only at c0 hzj
      obtain ⟨g, hg, s1⟩ := hP.spare
      have hcap := hP.row.2.1
      dsimp only at hg s1 hcap
      subst hg
      obtain ⟨m, hm⟩ : ∃ m, ps.length = m := ⟨_, rfl⟩
      rw [hm] at c0 s1 hcap hzj
      have hE : ∀ a, wr.cell? a = w.cell? a := fun a => by rw [hw.out]; rfl
      rw [← hE] at c0 s1
      rw [Nat.zero_add] at c0
      have hsp : S sprB = { data := #[115, 112, 97, 114, 101, 32, 114, 111, 111, 109] } := rfl
      rw [hsp] at s1
      have hsl2 : ∀ X, (Instr.sliceAt 36 (.slice (some ⟨g, 0, none⟩) m pc) none (some (.int .i64 ((m : Int) + 1))) none).run Tryd.prog X = .ok (.slice (some ⟨g, 0, none⟩) (m + 1) pc) X := fun X => halfP (some ⟨g, 0, none⟩) m pc (m + 1) _ (by simp) hcap X
      have m0 : (0 : Int) ≤ (m : Int) := Int.natCast_nonneg _
      have m1 : (m : Int) < ((m + 1 : Nat) : Int) := by omega
      have mb : (m : Int) ≤ 4398046510976 := by omega
      have z0 : 0 + m * 2 = m * 2 := Nat.zero_add _
      have hlt' : Hid (i < n) := hlt
      clear hx hm hP hiO hlt hi hsp hcap hzj hE
      go_upto_region 6 with fail
      go_quiet (fail)
      have s1' : (wr.drewN 1).cell? ⟨g, m * 2, none⟩ = some (.string { data := #[115, 112, 97, 114, 101, 32, 114, 111, 111, 109] }) := s1
      go_wp2_with fail
      go_roundw
      case rel => exact ⟨i + 1, _, hlt'.out, by simp, by unfold Hid; rw [hw.out, World.drewN_drewN]⟩
      case measure => have := hlt'.out; simp [intOf]; omega
    · have e : n = i := by omega
      subst e
      have i1 : ¬ (n : Int) < (n : Int) := by omega
      have hcc := hzz.out q
      rw [← hw.out] at hcc
      obtain ⟨f1, f2⟩ := hcc
      clear hi hlt
      go_wp2_with fail
      go_ret
      exact ⟨rfl, _, hw.out⟩
end Du
end Go.Proofs.YtfmhcgadgakbhaaDoor
