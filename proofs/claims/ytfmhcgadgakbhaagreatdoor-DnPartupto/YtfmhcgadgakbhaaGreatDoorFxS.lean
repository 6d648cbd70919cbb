import Derived.Test.YtfmhcgadgakbhaaGreatDoorFxO
import Derived.Test.YtfmhcgadgakbhaaGreatDoorFxQ
import Derived.Test.YtfmhcgadgakbhaaGreatDoorFxR
namespace Go.Proofs.YtfmhcgadgakbhaaGreatDoor
namespace Du
open Go.RowKit Go.Lib
set_option linter.unusedVariables false
set_option maxRecDepth 100000
theorem PO.row {B : Nat} {r : PX} {W : World} (h : PO B r W) : PRow W r.1 r.2.2 ∧ r.2.2.length + 1 ≤ r.2.1 ∧ r.2.1 ≤ maxLen := by
  obtain ⟨g, e, h1⟩ := h
  obtain ⟨a, c, h2, h3, h4, h5⟩ := h1.row pV_len
  injection h2 with e1 _ e2
  subst e1 e2
  rw [List.length_append] at h3
  rw [e]
  exact ⟨h5.front, h3, h4⟩
theorem PO.spare {B : Nat} {r : PX} {W : World} (h : PO B r W) : ∃ g, r.1 = some ⟨g, 0, none⟩ ∧ W.cell? ⟨g, r.2.2.length * 2, none⟩ = some (.string (S sprB)) := by
  obtain ⟨g, e, h1⟩ := h
  obtain ⟨a, c, h2, h3, h4, h5⟩ := h1.row pV_len
  injection h2 with e1 _ e2
  subst e1 e2
  obtain ⟨b, off, ea, p1, p2⟩ := prow_at h5 r.2.2.length (by simp)
  injection ea with ea
  injection ea with ea eb
  subst ea eb
  rw [List.getElem_append_right (by omega)] at p1 p2
  simp only [Nat.sub_self, List.getElem_cons_zero, Nat.zero_add] at p1 p2
  exact ⟨g, e, p1⟩
theorem CpQ.grow {w : World} {L : List PX} {n : Nat} {a : Option Addr} {c : Nat} {Os : List PX} {w' : World} (h : CpQ w L n a c Os w') : DRow w' a Os ∧ ∃ g zg, a = some ⟨g, 0, none⟩ ∧ w'.cell? ⟨g, n, none⟩ = some (.slice (some ⟨zg, 0, none⟩) 1 1) ∧ w'.cell? ⟨zg, 0, none⟩ = some (.string (S sprB)) := by
  obtain ⟨h1, h2, h3, ⟨g, zg, rfl, h4, h4'⟩, h5, h6, h7, h8⟩ := h
  obtain ⟨a, c, e, _, _, hr⟩ := h4.row xV_len
  injection e with e1 _ e2
  subst e1
  refine ⟨⟨hr.front, fun r hr => ⟨(h6 r hr).row.1, by have := (h6 r hr).row.2.1; omega, (h6 r hr).row.2.2⟩⟩, g, zg, rfl, ?_, ?_⟩
  · obtain ⟨b, off, e, h9⟩ := hr n (by rw [List.length_append, h1]; simp)
    injection e with e
    injection e with e1 e2
    subst e1 e2
    have := h9 0 (by omega)
    rw [List.getElem_append_right (by omega)] at this
    simpa [h1, xV] using this
  · obtain ⟨b, off, e, p1, p2⟩ := prow_at h4' 0 (by simp)
    injection e with e
    injection e with e1 e2
    subst e1 e2
    simpa using p1
theorem CpQ.sd {w : World} {L : List PX} {n : Nat} {a : Option Addr} {c : Nat} {Os : List PX} {w' : World} (h : CpQ w L n a c Os w') (hn : L.length = n) : Du.sd Os = Du.sd L := by
  unfold Du.sd
  refine List.ext_getElem (by rw [List.length_map, List.length_map, h.1, hn]) (fun i h1 h2 => ?_)
  rw [List.getElem_map, List.getElem_map]
  exact h.2.2.2.2.1 i (by simpa using h1) (by simpa using h2)
theorem CpQ.below {w : World} {L : List PX} {n : Nat} {a : Option Addr} {c : Nat} {Os : List PX} {w' W : World} (h : CpQ w L n a c Os w') (hb : Below w'.heap.size w' W) : CpQ w L n a c Os W := by
  obtain ⟨h1, h2, h3, ⟨g, zg, e, h4, h4'⟩, h5, h6, h7, h8⟩ := h
  exact ⟨h1, h2, h3, ⟨g, zg, e, h4.below hb, h4'.below pV_len hb⟩, h5, fun r hr => (h6 r hr).below hb, h7.trans (hb.mono h7.size), h8⟩
set_option maxHeartbeats 2000000 in
theorem spared_any (w0 : World) (a b : Option Addr) (c d : Nat) (Os L : List PX) (n : Nat) (w : World) (hn : L.length = n) (hz : ∀ r ∈ L, r.2.2.length ≤ 4398046510976) (hl : n ≤ 5864062014634) (hr : DRow w b L) (hQ : CpQ w0 L n a c Os w) :
    Calls Tryz.prog 13 #[.slice a n c, .slice b n d] w fun e w' => e = .returned (.bool true) ∧ ∃ q, w' = w.drewN q := by
  have nb : (n : Int) ≤ 5864062014634 := by omega
  have hzO : ∀ r ∈ Os, r.2.2.length ≤ 4398046510976 := fun r hr => by
    obtain ⟨i, hi, rfl⟩ := List.mem_iff_getElem.1 hr
    have hiL : i < L.length := by have := hQ.1; omega
    rw [hQ.2.2.2.2.1 i hi hiL]
    exact hz _ (List.getElem_mem hiL)
  obtain ⟨hD, ga, zg, ha, z1, z2⟩ := hQ.grow
  have hS : Hid (Calls Tryz.prog 22 #[.slice a n c, .slice b n d] w fun e w' => e = .returned (.bool true) ∧ ∃ q, w' = w.drewN q) :=
    sameDN_any a b c d Os L n w hQ.1 hn hl hD hr (hQ.sd hn) hzO
  subst ha
  have hQ' : Hid (CpQ w0 L n (some ⟨ga, 0, none⟩) c Os w) := hQ
  have hD' : Hid (DRow w (some ⟨ga, 0, none⟩) Os) := hD
  have hz' : Hid (∀ r ∈ Os, r.2.2.length ≤ 4398046510976) := hzO
  have hsl : ∀ X, (Instr.sliceAt 37 (.slice (some ⟨ga, 0, none⟩) n c) none (some (.int .i64 ((n : Int) + 1))) none).run Tryz.prog X = .ok (.slice (some ⟨ga, 0, none⟩) (n + 1) c) X := fun X => halfD _ n c (n + 1) _ (by simp) hQ.2.1 X
  have n0 : (0 : Int) ≤ (n : Int) := Int.natCast_nonneg _
  have n1 : (n : Int) < ((n + 1 : Nat) : Int) := by omega
  have hzz : Hid (∀ q, (w.drewN q).cell? ⟨ga, n, none⟩ = some (.slice (some ⟨zg, 0, none⟩) 1 1) ∧ (w.drewN q).cell? ⟨zg, 0, none⟩ = some (.string (S sprB))) := fun q => ⟨z1, z2⟩
  have hsp : S sprB = { data := #[115, 112, 97, 114, 101, 32, 114, 111, 111, 109] } := rfl
  rw [hsp] at hzz
  clear hzO hz hQ hr hn z1 z2 hD hl hsp
  go_enter Tryz.func13, Tryz.ntmps13
  go_wp2_with (go_at_call 22; refine hS.out.mono ?_; rintro e w1 ⟨rfl, q1, hw1⟩; have H1 : Hid (w1 = w.drewN q1) := hw1; clear hw1)
  go_loopw [5] (fun iv wr => ∃ i q : Nat, i ≤ n ∧ iv = .int .i64 (i : Int) ∧ Hid (wr = w.drewN q)) (fun iv _ => n - (intOf iv).toNat)
  case atStart => exact ⟨0, q1, Nat.zero_le _, rfl, H1⟩
  case round =>
    obtain ⟨i, q, hi, rfl, hw⟩ := hrel
    have i0 : (0 : Int) ≤ (i : Int) := Int.natCast_nonneg _
    by_cases hlt : i < n
    · have i1 : (i : Int) < (n : Int) := Int.ofNat_lt.2 hlt
      have hiO : i < Os.length := by rw [hQ'.out.1]; exact hlt
      obtain ⟨b1, o1, e1, c0⟩ := drow_at hD'.out i hiO
      injection e1 with e1
      injection e1 with e1 e2
      subst e1 e2
      have hP := hQ'.out.2.2.2.2.2.1 _ (List.getElem_mem hiO)
      have hzj := hz'.out _ (List.getElem_mem hiO)
      obtain ⟨⟨pa, pc, ps⟩, hx⟩ : ∃ x, Os[i] = x := ⟨_, rfl⟩
      rw [hx] at c0 hP hzj
      dsimp only at c0 hzj
      obtain ⟨g, hg, s1⟩ := hP.spare
      have hcap := hP.row.2.1
      dsimp only at hg s1 hcap
      subst hg
      obtain ⟨m, hm⟩ : ∃ m, ps.length = m := ⟨_, rfl⟩
      rw [hm] at c0 s1 hcap hzj
      have hE : ∀ a, wr.cell? a = w.cell? a := fun a => by rw [hw.out]; rfl
      rw [← hE] at c0 s1
      rw [Nat.zero_add] at c0
      have hsp : S sprB = { data := #[115, 112, 97, 114, 101, 32, 114, 111, 111, 109] } := rfl
      rw [hsp] at s1
      have hsl2 : ∀ X, (Instr.sliceAt 23 (.slice (some ⟨g, 0, none⟩) m pc) none (some (.int .i64 ((m : Int) + 1))) none).run Tryz.prog X = .ok (.slice (some ⟨g, 0, none⟩) (m + 1) pc) X := fun X => halfP (some ⟨g, 0, none⟩) m pc (m + 1) _ (by simp) hcap X
      have m0 : (0 : Int) ≤ (m : Int) := Int.natCast_nonneg _
      have m1 : (m : Int) < ((m + 1 : Nat) : Int) := by omega
      have mb : (m : Int) ≤ 4398046510976 := by omega
      have z0 : 0 + m * 2 = m * 2 := Nat.zero_add _
      have hlt' : Hid (i < n) := hlt
      clear hx hm hP hiO hlt hi hsp hcap hzj hE
      go_upto_region 6 with fail
      go_quiet (fail)
      have s1' : (wr.drewN 1).cell? ⟨g, m * 2, none⟩ = some (.string { data := #[115, 112, 97, 114, 101, 32, 114, 111, 111, 109] }) := s1
      go_wp2_with fail
      go_roundw
      case rel => exact ⟨i + 1, _, hlt'.out, by simp, by unfold Hid; rw [hw.out, World.drewN_drewN]⟩
      case measure => have := hlt'.out; simp [intOf]; omega
    · have e : n = i := by omega
      subst e
      have i1 : ¬ (n : Int) < (n : Int) := by omega
      have hcc := hzz.out q
      rw [← hw.out] at hcc
      obtain ⟨f1, f2⟩ := hcc
      clear hi hlt
      go_wp2_with fail
      go_ret
      exact ⟨rfl, _, hw.out⟩
end Du
end Go.Proofs.YtfmhcgadgakbhaaGreatDoor

namespace Go.Proofs.YtfmhcgadgakbhaaGreatDoor
namespace Ke
open Go.RowKit
open Du (PRow DRow PX sd sd_len drow_at pV pV_len prow_at CpQ copyDN_any spared_any)
set_option linter.unusedVariables false
set_option linter.unusedSimpArgs false
set_option maxRecDepth 100000

/-- The reasons by the addresses that their variables hold. -/
def evA (ad : Nat → Addr) (k : Nat) : TypeId × Value := (176, .pointer (some (ad k)))
theorem senF {ad : Nat → Addr} {W : World} (h : Sen ad W) : ErrsF (evA ad) W ∧ W.cell? ⟨4, 0, none⟩ = some (.iface (evA ad 50).1 (evA ad 50).2) :=
  ⟨⟨(h.1 (58, 0) (by decide)).1, (h.1 (59, 1) (by decide)).1, (h.1 (57, 2) (by decide)).1, (h.1 (51, 3) (by decide)).1⟩, (h.1 (50, 4) (by decide)).1⟩
theorem cer_mem {ps : List PR} {num : Int} (h : cer ps num ≠ 0) : cer ps num = 50 ∨ cer ps num = 51 ∨ cer ps num = 57 ∨ cer ps num = 58 ∨ cer ps num = 59 := by
  unfold cer at h ⊢
  split
  · exact Or.inr (Or.inr (Or.inr (Or.inl rfl)))
  · rename_i q
    rw [if_neg q] at h
    rcases rer_mem ps with e | e | e | e | e
    · exact absurd e h
    · exact Or.inr (Or.inl e)
    · exact Or.inr (Or.inr (Or.inl e))
    · exact Or.inr (Or.inr (Or.inr (Or.inl e)))
    · exact Or.inr (Or.inr (Or.inr (Or.inr e)))
set_option maxHeartbeats 1000000 in
theorem lfault_nil (w : World) : Calls Tryz.prog 7 #[.nilIface, .int .i64 0, .int .i64 0] w fun e w' => e = .returned (.bool true) ∧ Below w.heap.size w w' := by
  have cF : Hid (Calls Tryz.prog 19 #[.nilIface] w fun e w' => e = .returned (.tuple #[.int .i64 0, .int .i64 0]) ∧ w' = w) := fault_nil w
  go_enter Tryz.func7, Tryz.ntmps7
  go_wp2_with fail
  refine cF.out.mono ?_
  rintro e W1 ⟨rfl, rfl⟩
  clear cF
  go_wp2_with fail
  go_ret
  exact ⟨rfl, Below.refl _ _⟩
set_option maxHeartbeats 1000000 in
theorem lfault_ref (ad : Nat → Addr) (k : Nat) (num : Int) (w : World) (h : Sen ad w) (hT : ErrT w) (hk : k = 50 ∨ k = 51 ∨ k = 57 ∨ k = 58 ∨ k = 59) :
    Calls Tryz.prog 7 #[.iface 70 (.agg #[.iface 176 (.pointer (some (ad k))), .int .i64 num]), .int .i64 (k : Int), .int .i64 num] w fun e w' => e = .returned (.bool true) ∧ Below w.heap.size w w' := by
  have cF : Hid (Calls Tryz.prog 19 #[.iface 70 (.agg #[.iface 176 (.pointer (some (ad k))), .int .i64 num])] w fun e w' => e = .returned (.tuple #[.int .i64 (k : Int), .int .i64 num]) ∧ Below w.heap.size w w') := fault_ref ad k num w h hT hk
  have k0 : ((k : Int) == 0) = false := by rw [beq_eq_false_iff_ne]; omega
  have kk : ((k : Int) == (k : Int)) = true := by rw [beq_iff_eq]
  have nn : (num == num) = true := by rw [beq_iff_eq]
  clear h hT hk
  go_enter Tryz.func7, Tryz.ntmps7
  go_wp2_with fail
  refine cF.out.mono ?_
  rintro e W1 ⟨rfl, hb⟩
  have hb' : Hid (Below w.heap.size w W1) := hb
  clear cF hb
  go_wp2_with fail
  go_ret
  exact ⟨rfl, hb'.out⟩
/-- What Print tells, by its text and its refusal. -/
def Pq (ad : Nat → Addr) (D : List (List PR)) (s : ByteArray) (x : Value) : Prop :=
  (Az D ∧ (dtx D).length ≤ 4096 ∧ s = S (dtx D) ∧ x = .nilIface) ∨ (Az D ∧ 4096 < (dtx D).length ∧ s = ⟨#[]⟩ ∧ x = refV (evA ad) 50 (D.length : Int)) ∨ (∃ k, ∃ h : k < D.length, Fs D k ∧ s = ⟨#[]⟩ ∧ x = refV (evA ad) (cer D[k] (k : Int)) (k : Int))
theorem prF_pq {ad : Nat → Addr} {w w' : World} {D : List (List PR)} {e : Ending} (h : PrF (evA ad) w D e w') : ∃ s x, e = .returned (.tuple #[.string s, x]) ∧ Pq ad D s x := by
  rcases h.2 with ⟨h1, h2, h3⟩ | ⟨h1, h2, h3⟩ | ⟨k, h1, h2, h3⟩
  · exact ⟨_, _, h3, Or.inl ⟨h1, h2, rfl, rfl⟩⟩
  · exact ⟨_, _, h3, Or.inr (Or.inl ⟨h1, h2, rfl, rfl⟩)⟩
  · exact ⟨_, _, h3, Or.inr (Or.inr ⟨k, h1, h2, rfl, rfl⟩)⟩
theorem rpF_pq {ad : Nat → Addr} {w w' : World} {D : List (List PR)} {e : Ending} {s : ByteArray} {x : Value} (hq : Pq ad D s x) (h : RpF w D e w') :
    ∃ f at_ : Int, e = .returned (.tuple #[.string s, .int .i64 f, .int .i64 at_]) ∧ ∀ W, Sen ad W → ErrT W → Calls Tryz.prog 7 #[x, .int .i64 f, .int .i64 at_] W fun e w' => e = .returned (.bool true) ∧ Below W.heap.size W w' := by
  rcases h.2 with ⟨h1, h2, h3⟩ | ⟨h1, h2, h3⟩ | ⟨k, h1, h2, h3⟩
  · rcases hq with ⟨q1, q2, q3, q4⟩ | ⟨q1, q2, q3, q4⟩ | ⟨m, q1, q2, q3, q4⟩
    · subst q3 q4
      exact ⟨0, 0, h3, fun W _ _ => lfault_nil W⟩
    · omega
    · exact (fs_az q2 h1).elim
  · rcases hq with ⟨q1, q2, q3, q4⟩ | ⟨q1, q2, q3, q4⟩ | ⟨m, q1, q2, q3, q4⟩
    · omega
    · subst q3 q4
      exact ⟨50, _, h3, fun W hS hT => lfault_ref ad 50 _ W hS hT (Or.inl rfl)⟩
    · exact (fs_az q2 h1).elim
  · rcases hq with ⟨q1, q2, q3, q4⟩ | ⟨q1, q2, q3, q4⟩ | ⟨m, q1, q2, q3, q4⟩
    · exact (fs_az h2 q1).elim
    · exact (fs_az h2 q1).elim
    · have := fs_one h2 q2
      subst this
      subst q3 q4
      exact ⟨_, _, h3, fun W hS hT => lfault_ref ad _ _ W hS hT (cer_mem h2.2.2)⟩
theorem str_self (s : ByteArray) : (s.toList == s.toList) = true := beq_self_eq_true _
end Ke
end Go.Proofs.YtfmhcgadgakbhaaGreatDoor

namespace Go.Proofs.YtfmhcgadgakbhaaGreatDoor
namespace Ke
open Go.RowKit
open Du (PRow DRow PX sd sd_len drow_at pV pV_len prow_at CpQ copyDN_any spared_any)
set_option linter.unusedVariables false
set_option linter.unusedSimpArgs false
set_option maxRecDepth 100000

theorem okd_az {D : List (List PR)} (h : OkD D) : Az D := fun j hj => by
  unfold cer
  rw [if_neg (by have := h.1; omega)]
  exact rer_ok (h.2 _ (List.getElem_mem hj))
theorem keysLen (D : List (List PR)) : (keys D).length = D.length := by unfold keys; rw [List.length_reverse, List.length_map]
/-- What Key tells: the texts of its list, and its refusal. -/
def Kq (ad : Nat → Addr) (D : List (List PR)) (a : Option Addr) (kl : Nat) (x : Value) (W : World) : Prop :=
  (Az D ∧ kl = D.length ∧ x = .nilIface ∧ Row W a (keys D)) ∨ (∃ k, ∃ h : k < D.length, Fs D k ∧ kl = 0 ∧ x = refV (evA ad) (cer D[k] (k : Int)) (k : Int))
theorem keyF_kq {ad : Nat → Addr} {w w' : World} {D : List (List PR)} {n : Nat} (hn : D.length = n) {e : Ending} (h : KeyF (evA ad) w D n e w') : ∃ a kl c x, e = .returned (.tuple #[.slice a kl c, x]) ∧ Kq ad D a kl x w' := by
  rcases h.2 with ⟨h1, ka, kc, h2, h3⟩ | ⟨k, h1, h2, h3⟩
  · exact ⟨_, _, _, _, h2, Or.inl ⟨okd_az h1, hn.symm, rfl, (ownS_row h3).1⟩⟩
  · exact ⟨_, _, _, _, h3, Or.inr ⟨k, h1, h2, rfl, rfl⟩⟩
theorem Kq.below {ad : Nat → Addr} {D : List (List PR)} {a : Option Addr} {kl : Nat} {x : Value} {W W' : World} (h : Kq ad D a kl x W) (hb : Below W.heap.size W W') : Kq ad D a kl x W' := by
  rcases h with ⟨h1, h2, h3, h4⟩ | h
  · exact Or.inl ⟨h1, h2, h3, h4.below hb⟩
  · exact Or.inr h
theorem rkF_kq {ad : Nat → Addr} {w w' : World} {D : List (List PR)} {n : Nat} (hn : D.length = n) (hb : D.length ≤ 1073741824) {a : Option Addr} {kl c : Nat} {x : Value} {e : Ending} (hq : Kq ad D a kl x w) (h : RkF w D n e w') :
    ∃ la ll lc, ∃ f at_ : Int, e = .returned (.tuple #[.slice la ll lc, .int .i64 f, .int .i64 at_]) ∧ Below w.heap.size w w' ∧ (Calls Tryz.prog 12 #[.slice a kl c, .slice la ll lc] w' fun e w'' => e = .returned (.bool true) ∧ Below w'.heap.size w' w'') ∧ ∀ W, Sen ad W → ErrT W → Calls Tryz.prog 7 #[x, .int .i64 f, .int .i64 at_] W fun e w' => e = .returned (.bool true) ∧ Below W.heap.size W w' := by
  have same : ∀ (l : List (List UInt8)) (a b : Option Addr) (c d : Nat), l.length ≤ 1073741824 → Row w' a l → Row w' b l → Calls Tryz.prog 12 #[.slice a l.length c, .slice b l.length d] w' fun e w'' => e = .returned (.bool true) ∧ Below w'.heap.size w' w'' := fun l a b c d hl h1 h2 => by
    refine (sameTexts_any l l a b c d w' (by omega) (by omega) h1 h2).mono ?_
    rintro e w'' ⟨rfl, q, rfl⟩
    exact ⟨by rw [decide_eq_true rfl], ⟨rfl, rfl, rfl, Nat.le_refl _, fun _ _ => rfl⟩⟩
  have hkb : Below w.heap.size w w' := h.1
  rcases h.2 with ⟨h1, ka, kc, h2, h3⟩ | ⟨k, h1, h2, h3⟩
  · rcases hq with ⟨q1, q2, q3, q4⟩ | ⟨m, q1, q2, q3, q4⟩
    · subst q3
      refine ⟨_, _, _, 0, 0, h2, hkb, ?_, fun W _ _ => lfault_nil W⟩
      have hs := same (keys D) a ka c kc (by rw [keysLen]; exact hb) (q4.below hkb) (ownS_row h3).1
      rw [keysLen] at hs
      rw [q2, ← hn]
      exact hs
    · exact (fs_az q2 h1).elim
  · rcases hq with ⟨q1, q2, q3, q4⟩ | ⟨m, q1, q2, q3, q4⟩
    · exact (fs_az h2 q1).elim
    · have := fs_one h2 q2
      subst this
      subst q3 q4
      refine ⟨_, _, _, _, _, h3, hkb, same [] a none c 0 (by simp) (Row.nil _ _) (Row.nil _ _), fun W hS hT => lfault_ref ad _ _ W hS hT (cer_mem h2.2.2)⟩
set_option maxHeartbeats 4000000 in
theorem dnKey_walk (ad : Nat → Addr) (sa : Option Addr) (sc n : Nat) (L : List PX) (w : World) (hS : Sen ad w) (hE : ErrT w) (hG : RowTab w) (hn : L.length = n) (hr : DRow w sa L) (hz : ∀ r ∈ L, ∀ p ∈ r.2.2, p.1.length + p.2.length ≤ 4194300) (hzl : ∀ r ∈ L, r.2.2.length ≤ 1073741824) (hnb : n ≤ 1073741824) :
    Calls Tryz.prog 4 #[.slice sa n sc] w fun e w' => e = .returned (.bool true) ∧ Below w.heap.size w w' := by
  have nb : (n : Int) ≤ 1073741824 := by omega
  have hC : Hid (Calls Tryz.prog 9 #[.slice sa n sc] w fun e w' => ∃ a c Os, e = .returned (.slice a n c) ∧ CpQ w L n a c Os w') := (copyDN_any sa sc L n w hn hr (fun r hr => by have := hzl r hr; omega) (by omega)).mono (fun e w' h => by obtain ⟨a, c, Os, h1, h2⟩ := h; exact ⟨a, c, Os, h1, h2⟩)
  have hn' : Hid (L.length = n) := hn
  have hr' : Hid (DRow w sa L) := hr
  have hS' : Hid (Sen ad w ∧ ErrT w ∧ RowTab w) := ⟨hS, hE, hG⟩
  have hz' : Hid ((∀ r ∈ L, ∀ p ∈ r.2.2, p.1.length + p.2.length ≤ 4194300) ∧ (∀ r ∈ L, r.2.2.length ≤ 1073741824) ∧ n ≤ 1073741824) := ⟨hz, hzl, hnb⟩
  clear hS hE hG hn hr hz hzl hnb
  go_enter Tryz.func4, Tryz.ntmps4
  go_wp2_with fail
  refine hC.out.mono ?_
  rintro e W1 ⟨a, c, Os, rfl, hQ⟩
  have hQ' : Hid (CpQ w L n a c Os W1) := hQ
  have hb1 : Hid (Below w.heap.size w W1) := by obtain ⟨_, _, _, _, _, _, h7, _⟩ := hQ; exact h7
  have hsd : Hid (sd Os = sd L) := hQ.sd hn'.out
  have hmem : Hid (∀ r ∈ Os, ∃ r' ∈ L, r'.2.2 = r.2.2) := fun r hr => by
    have h1 : r.2.2 ∈ sd Os := List.mem_map.2 ⟨r, hr, rfl⟩
    rw [hsd.out] at h1
    obtain ⟨r', h2, h3⟩ := List.mem_map.1 h1
    exact ⟨r', h2, h3⟩
  have hOl : Hid (Os.length = n) := by unfold Hid; rw [← sd_len Os, hsd.out, sd_len]; exact hn'.out
  have hP : Hid (Calls Tryz.prog 10 #[.slice a n c] W1 fun e w' => KeyF (evA ad) W1 (sd L) n e w') := by
    have h := key_F (evA ad) a c n Os W1 (senF (hS'.out.1.below hb1.out)).1 hOl.out hQ.grow.1 (fun r hr p hp => by obtain ⟨r', h2, h3⟩ := hmem.out r hr; rw [← h3] at hp; have := hz'.out.1 r' h2 p hp; omega) (fun r hr => by obtain ⟨r', h2, h3⟩ := hmem.out r hr; rw [← h3]; exact hz'.out.2.1 r' h2) hz'.out.2.2
    rw [hsd.out] at h
    exact h
  clear hC hQ hmem hOl hsd
  go_wp2_with fail
  refine hP.out.mono ?_
  rintro e W2 hp
  have hb2 : Hid (Below w.heap.size w W2) := hb1.out.trans (hp.1.mono hb1.out.size)
  have hQ2 : Hid (CpQ w L n a c Os W2) := hQ'.out.below hp.1
  obtain ⟨ka, kl, kc, x, rfl, hq⟩ := keyF_kq (by rw [sd_len]; exact hn'.out) hp
  have hq' : Hid (Kq ad (sd L) ka kl x W2) := hq
  have hR : Hid (Calls Tryz.prog 11 #[.slice sa n sc] W2 fun e w' => RkF W2 (sd L) n e w') := rkey_any sa sc n L W2 (rowTab_below hS'.out.2.2 hb2.out) hn'.out (hr'.out.below hb2.out) hz'.out.1 hz'.out.2.1 hz'.out.2.2
  clear hP hp hq hQ' hb1
  go_wp2_with fail
  refine hR.out.mono ?_
  rintro e W3 hp
  obtain ⟨la, ll, lc, f, at_, rfl, hbp, hsm, hF⟩ := rkF_kq (c := kc) (by rw [sd_len]; exact hn'.out) (by rw [sd_len, hn'.out]; exact hz'.out.2.2) hq'.out hp
  have hb3 : Hid (Below w.heap.size w W3) := hb2.out.trans (hbp.mono hb2.out.size)
  have hQ3 : Hid (CpQ w L n a c Os W3) := hQ2.out.below hbp
  have hsm' : Hid (Calls Tryz.prog 12 #[.slice ka kl kc, .slice la ll lc] W3 fun e w'' => e = .returned (.bool true) ∧ Below W3.heap.size W3 w'') := hsm
  have hF' : Hid (∀ W, Sen ad W → ErrT W → Calls Tryz.prog 7 #[x, .int .i64 f, .int .i64 at_] W fun e w' => e = .returned (.bool true) ∧ Below W.heap.size W w') := hF
  clear hR hp hF hQ2 hb2 hq' hsm hbp
  go_wp2_with fail
  refine hsm'.out.mono ?_
  rintro e W4 ⟨rfl, hb⟩
  have hb4 : Hid (Below w.heap.size w W4) := hb3.out.trans (hb.mono hb3.out.size)
  have hQ4 : Hid (CpQ w L n a c Os W4) := hQ3.out.below hb
  have hF4 : Hid (Calls Tryz.prog 7 #[x, .int .i64 f, .int .i64 at_] W4 fun e w' => e = .returned (.bool true) ∧ Below W4.heap.size W4 w') := hF'.out W4 (hS'.out.1.below hb4.out) ((hb4.out.cell (World.block_lt_of_cell? _ _ hS'.out.2.1)).trans hS'.out.2.1)
  clear hsm' hF' hb hb3 hQ3
  go_wp2_with fail
  refine hF4.out.mono ?_
  rintro e W5 ⟨rfl, hb⟩
  have hb5 : Hid (Below w.heap.size w W5) := hb4.out.trans (hb.mono hb4.out.size)
  have hQ5 : Hid (CpQ w L n a c Os W5) := hQ4.out.below hb
  have hV : Hid (Calls Tryz.prog 13 #[.slice a n c, .slice sa n sc] W5 fun e w' => e = .returned (.bool true) ∧ ∃ q, w' = W5.drewN q) := spared_any w a sa c sc Os L n W5 hn'.out (fun r hr => by have := hz'.out.2.1 r hr; omega) (by have := hz'.out.2.2; omega) (hr'.out.below hb5.out) hQ5.out
  clear hF4 hb hb4 hQ4 hQ5
  go_wp2_with fail
  refine hV.out.mono ?_
  rintro e W6 ⟨rfl, q, hq⟩
  have hfin : Hid (Below w.heap.size w W6) := by
    rw [hq]
    exact hb5.out.trans ⟨rfl, rfl, rfl, Nat.le_refl _, fun _ _ => rfl⟩
  clear hV hq hb5
  go_wp2_with fail
  go_ret
  exact ⟨rfl, hfin.out⟩
end Ke
end Go.Proofs.YtfmhcgadgakbhaaGreatDoor
