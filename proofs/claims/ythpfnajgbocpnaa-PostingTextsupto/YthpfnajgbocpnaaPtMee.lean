import Derived.Test.YthpfnajgbocpnaaPtMin
import Derived.Test.YthpfnajgbocpnaaPtHds
namespace Go.Proofs.Ythpfnajgbocpnaa
namespace Pt
open Go.RowKit Go.Sort Go.Lib
open PtMath (Inc setOf cnt)
open PtHpM (Hd)
set_option linter.unusedVariables false
set_option maxRecDepth 100000
open PtT (Rk TB en)
variable {Tk : PtT.Rk}

theorem el42 : Try.prog.underlying 22 = some (.slice (Try.prog.elem 22)) := by kernel_rfl
theorem info_sl : (Try.prog.info? 23).map (fun i => i.size) = some 1 := by kernel_rfl
theorem run_sz42 (W : World) : (Go.sizeOf (Try.prog.elem 22)).run Try.prog W = .ok 1 W := by
  have e : Try.prog.elem 22 = 23 := by kernel_rfl
  rw [e]
  obtain ⟨i0, hi, hs⟩ := Option.map_eq_some_iff.1 info_sl
  simp [Go.sizeOf, typeInfo, hi, hs]
theorem slice_from42 (a : Option Addr) (n c k : Nat) (z : Int) (hz : z = (k : Int)) (hk : k ≤ n) (W : World) :
    (Instr.sliceAt 22 (.slice a n c) (some (.int .i64 z)) none none).run Try.prog W = .ok (.slice (cutA a k c) (n - k) (c - k)) W := by
  subst hz
  rw [run_sliceAt_slice _ _ _ _ _ _ el42, run_slice_l _ _ _ _ _ el42 _ _ (Int.natCast_nonneg _) (Int.ofNat_le.2 hk), run_sz42]
  simp [Result.andThen, sliced, cutA]
theorem SRow.cut {w : World} {a : Option Addr} {l : List Hd} {k c : Nat} (h : SRow w a l) (hc : l.length ≤ c) : SRow w (cutA a k c) (l.drop k) := fun i hi => by
  rw [List.length_drop] at hi
  obtain ⟨b, off, e, h1⟩ := h (k + i) (by omega)
  subst e
  refine ⟨b, off + k, ?_, ?_⟩
  · unfold cutA
    rw [if_neg (by omega)]
    simp [add_off]
  · rw [List.getElem_drop, ← h1, Nat.add_assoc]
/-- What stands in all of the lists. -/
def mt (M : List Nat) (T : List Hd) : List Nat := T.foldl (fun m h => sft (setOf h.2.2) true m) M
theorem mt_snoc (M : List Nat) (T : List Hd) (h : Hd) : mt M (T ++ [h]) = sft (setOf h.2.2) true (mt M T) := by simp [mt]
theorem sft_len (O : List Nat) (b : Bool) (S : List Nat) : (sft O b S).length ≤ S.length := List.length_filter_le _ _
theorem sft_inc {O : List Nat} {b : Bool} {S : List Nat} (h : Inc S) : Inc (sft O b S) := h.sublist (List.filter_sublist)
theorem mt_ok (T : List Hd) : ∀ M : List Nat, Inc M → Inc (mt M T) ∧ (mt M T).length ≤ M.length := by
  induction T with
  | nil => intro M h; exact ⟨h, Nat.le_refl _⟩
  | cons h T ih =>
    intro M hM
    have := ih (sft (setOf h.2.2) true M) (sft_inc hM)
    exact ⟨this.1, Nat.le_trans this.2 (sft_len _ _ _)⟩
theorem mt_mem (T : List Hd) : ∀ (M : List Nat) (x : Nat), x ∈ mt M T ↔ x ∈ M ∧ ∀ h ∈ T, x ∈ h.2.2 := by
  induction T with
  | nil => intro M x; simp [mt]
  | cons h T ih =>
    intro M x
    have e : mt M (h :: T) = mt (sft (setOf h.2.2) true M) T := rfl
    rw [e, ih]
    unfold sft
    rw [List.mem_filter]
    simp only [beq_true, decide_eq_true_eq, PtMath.setOf_mem, List.mem_cons, forall_eq_or_imp]
    constructor
    · rintro ⟨⟨a1, a2⟩, a3⟩; exact ⟨a1, a2, a3⟩
    · rintro ⟨a1, a2, a3⟩; exact ⟨⟨a1, a2⟩, a3⟩

set_option maxRecDepth 100000 in
set_option maxHeartbeats 1000000 in
theorem meet_any (sa : Option Addr) (h : Hd) (T : List Hd) (sc : Nat) (w : World) (hr : SRow w sa (h :: T)) (hc : (h :: T).length ≤ sc) (hok : ∀ x ∈ h :: T, Rd Tk w x.1 x.2.1 x.2.2) (hl : (h :: T).length ≤ 17592186044416) :
    Calls Try.prog 11 #[.slice sa (h :: T).length sc] w fun e w' => ∃ v, e = .returned v ∧ OwnI Tk w' w.heap.size v (mt (setOf h.2.2) T) ∧ Below w.heap.size w w' := by
  obtain ⟨b, off, rfl, c0⟩ := hr 0 (by simp)
  simp only [Nat.add_zero, List.getElem_cons_zero, hv] at c0
  have hh := hok h (List.mem_cons_self ..)
  have hO := of_any h.1 h.2.2 h.2.1 w hh.1 hh.2.2.2
  have hS : Hid (SRow w (cutA (some ⟨b, off, none⟩) 1 sc) T ∧ (∀ x ∈ T, Rd Tk w x.1 x.2.1 x.2.2) ∧ (setOf h.2.2).length ≤ 4194304) := ⟨by have := hr.cut (k := 1) hc; simpa using this, fun x hx => hok x (List.mem_cons_of_mem _ hx), by have := PtMath.setOf_len h.2.2; have := hh.2.2.2; omega⟩
  have hsl : ∀ W, (Instr.sliceAt 22 (.slice (some ⟨b, off, none⟩) (h :: T).length sc) (some (.int .i64 1)) none none).run Try.prog W = .ok (.slice (cutA (some ⟨b, off, none⟩) 1 sc) T.length (sc - 1)) W := fun W => by
    have := slice_from42 (some ⟨b, off, none⟩) (h :: T).length sc 1 1 rfl (by simp) W
    simpa using this
  have q0 : (((h :: T).length : Int) == 0) = false := by simp only [List.length_cons]; simp; omega
  have p0 : (0 : Int) < ((h :: T).length : Int) := by simp only [List.length_cons]; omega
  have tb : (T.length : Int) ≤ 17592186044416 := by simp at hl; omega
  have hI : Hid (Inc (setOf h.2.2)) := PtMath.setOf_inc _
  generalize (h :: T).length = N at *
  generalize cutA (some ⟨b, off, none⟩) 1 sc = ta at *
  generalize setOf h.2.2 = M at *
  obtain ⟨n, hn⟩ : ∃ n, T.length = n := ⟨_, rfl⟩
  have hn' : Hid (T.length = n) := hn
  rw [hn] at tb
  simp only [hn] at hsl
  generalize h.2.2.length = n1 at *
  generalize h.1 = ha at *
  generalize h.2.1 = hcap at *
  clear hr hc hok hl hh hn
  go_enter Try.func11, Try.ntmps11
  go_wp2_with (go_at_call 5; refine hO.mono ?_; rintro e w1 ⟨v1, rfl, hO1, hb1⟩)
  go_loopw [3, 16] (fun v iv wr => ∃ k : Nat, iv = .int .i64 (k : Int) ∧ k ≤ n ∧ Hid (OwnI Tk wr w.heap.size v (mt M (T.take k)) ∧ Below w.heap.size w wr)) (fun _ iv _ => n - (intOf iv).toNat)
  case atStart => exact ⟨0, rfl, Nat.zero_le _, hO1, hb1⟩
  case round =>
    obtain ⟨k, rfl, hk, hQ⟩ := hrel
    have k0 : (0 : Int) ≤ (k : Int) := Int.natCast_nonneg _
    by_cases hlt : k < n
    · have k1 : (k : Int) < (n : Int) := Int.ofNat_lt.2 hlt
      have hkT : k < T.length := by rw [hn'.out]; exact hlt
      obtain ⟨b2, o2, rfl, c2⟩ := (hS.out.1.below hQ.out.2) k hkT
      simp only [hv] at c2
      have hx := hS.out.2.1 _ (List.getElem_mem hkT)
      have htk : Hid (mt M (T.take (k + 1)) = sft (setOf T[k].2.2) true (mt M (T.take k))) := by
        unfold Hid
        rw [List.take_succ_eq_append_getElem hkT, mt_snoc]
      have hlt' : Hid (k < n) := hlt
      have hmo := mt_ok (T.take k) M hI.out
      have hmo' : Hid (Inc (mt M (T.take k)) ∧ (mt M (T.take k)).length ≤ 4194304) := ⟨hmo.1, by have := hS.out.2.2; have := hmo.2; omega⟩
      obtain ⟨am, nm, cm, hv3⟩ := ownI_slice hQ.out.1
      have hQ' : OwnI Tk wr w.heap.size (.slice am nm cm) (mt M (T.take k)) := by rw [← hv3]; exact hQ.out.1
      have hnm := (ownI_row hQ').2
      subst hv3
      subst hnm
      have hQ2 : Hid (OwnI Tk wr w.heap.size (.slice am (mt M (T.take k)).length cm) (mt M (T.take k)) ∧ Below w.heap.size w wr) := ⟨hQ', hQ.out.2⟩
      have hOr : Hid (Calls Try.prog 22 #[.slice T[k].1 T[k].2.2.length T[k].2.1] wr fun e w' => ∃ a' c', e = .returned (.slice a' (setOf T[k].2.2).length c') ∧ Rd Tk w' a' c' (setOf T[k].2.2) ∧ Below wr.heap.size wr w') := ordered_any _ _ _ wr (hx.below hQ.out.2)
      generalize T[k] = x at *
      generalize hG : mt M (T.take k) = G at *
      clear hQ hQ' hk hlt hkT hx hmo hG
      go_wp2_with (first
        | (go_at_call 22; refine hOr.out.mono ?_; rintro e w2 ⟨a2, c3, rfl, hr2, hb2⟩)
        | (go_at_call 21; refine (sift_any am G cm a2 (setOf x.2.2) c3 true w2 ((ownI_row hQ2.out.1).1.below hb2) hmo'.out.1 hmo'.out.2 hr2.1 (PtMath.setOf_inc _) hr2.2.1 hr2.2.2.1 (by have := hr2.2.2.2; omega)).mono ?_; rintro e w3 ⟨v3, rfl, hO3, hb3⟩))
      have hfin : Hid (OwnI Tk w3 w.heap.size v3 (mt M (T.take (k + 1))) ∧ Below w.heap.size w w3) := by
        have hs : w.heap.size ≤ w2.heap.size := Nat.le_trans hQ2.out.2.size hb2.size
        refine ⟨by rw [htk.out]; exact ownI_base hO3 hs, (hQ2.out.2.trans (hb2.mono hQ2.out.2.size)).trans (hb3.mono hs)⟩
      clear hO3 hb3 hb2 hr2
      go_roundw
      case rel => exact ⟨k + 1, by simp, hlt'.out, hfin⟩
      case measure => have := hlt'.out; simp [intOf]; omega
    · have e : k = n := by omega
      subst e
      have k1 : ¬ (k : Int) < (k : Int) := by omega
      have hE : Hid (OwnI Tk wr w.heap.size u3 (mt M T) ∧ Below w.heap.size w wr) := by
        have h1 := hQ.out
        rw [← hn'.out, List.take_length] at h1
        exact h1
      clear hQ hk hlt
      go_wp2_with fail
      go_ret
      exact ⟨_, rfl, hE.out⟩
end Pt
end Go.Proofs.Ythpfnajgbocpnaa
