import Derived.Test.YtihjlcclaoofhaaDoorDuOwn
namespace Go.Proofs.YtihjlcclaoofhaaDoor
namespace Du
open Go.RowKit
set_option linter.unusedVariables false
set_option maxRecDepth 100000

theorem ne_ava (c s : ByteArray) (W : World) :
    (binOp .neq 38 (.agg #[.string c, .string s]) (.agg #[.string c, .string s])).run Tryd.prog W = .ok (.bool false) W := by
  have hS : Tryd.prog.underlying 38 = some (.struct (Tryd.prog.fieldsOf 38)) := by kernel_rfl
  have hp : Tryd.prog.stoodInHeld 38 = false := by kernel_rfl
  rw [run_neq_struct, run_equalIn_struct _ _ _ _ _ hS hp]
  simp only [Program.fieldsOf, Tryd.underlying38]
  simp [Op.eqFields, go_sem]

set_option maxHeartbeats 1000000 in
theorem sameRDN_any (l : List PR) (n : Nat) (hn : l.length = n) (a b : Option Addr) (c d : Nat) (w : World) (hl : n ≤ 5864062014634) (h1 : PRow w a l) (h2 : PRow w b l) :
    Calls Tryd.prog 19 #[.slice a n c, .slice b n d] w fun e w' => e = .returned (.bool true) ∧ ∃ q, w' = w.drewN q := by
  have h1' : Hid (PRow w a l) := h1
  have h2' : Hid (PRow w b l) := h2
  have hn' : Hid (l.length = n) := hn
  have nb : (n : Int) ≤ 5864062014634 := by omega
  clear h1 h2 hn hl
  go_enter Tryd.func19, Tryd.ntmps19
  go_wp2_with fail
  go_loopw [5] (fun iv wr => ∃ i q : Nat, i ≤ n ∧ iv = .int .i64 (i : Int) ∧ Hid (wr = w.drewN q)) (fun iv _ => n - (intOf iv).toNat)
  case atStart => exact ⟨0, 0, Nat.zero_le _, rfl, rfl⟩
  case round =>
    obtain ⟨i, q, hi, rfl, hw⟩ := hrel
    have i0 : (0 : Int) ≤ (i : Int) := Int.natCast_nonneg _
    by_cases hlt : i < n
    · have hil : i < l.length := by rw [hn'.out]; exact hlt
      obtain ⟨b1, o1, rfl, p1, p2⟩ := prow_at h1'.out i hil
      obtain ⟨b2, o2, rfl, q1, q2⟩ := prow_at h2'.out i hil
      have hE : ∀ a, wr.cell? a = w.cell? a := fun a => by rw [hw.out]; rfl
      rw [← hE] at p1 p2 q1 q2
      have i1 : (i : Int) < (n : Int) := Int.ofNat_lt.2 hlt
      generalize S l[i].1 = X at *
      generalize S l[i].2 = Y at *
      have hne := ne_ava X Y
      have hlt' : Hid (i < n) := hlt
      clear hE hil hlt hi
      go_wp2_with fail
      go_quiet (fail)
      go_wp2_with fail
      go_roundw
      case rel => exact ⟨i + 1, _, hlt'.out, by simp, by unfold Hid; rw [hw.out, World.drewN_drewN]⟩
      case measure => have := hlt'.out; simp [intOf]; omega
    · have e : n = i := by omega
      subst e
      have k1 : ¬ (n : Int) < (n : Int) := by omega
      clear hlt hi
      go_wp2_with fail
      go_ret
      exact ⟨rfl, _, hw.out⟩

set_option maxHeartbeats 2000000 in
theorem sameDN_any (a b : Option Addr) (c d : Nat) (L M : List PX) (n : Nat) (w : World) (hL : L.length = n) (hM : M.length = n) (hl : n ≤ 5864062014634) (h1 : DRow w a L) (h2 : DRow w b M) (hs : sd L = sd M) (hz : ∀ r ∈ L, r.2.2.length ≤ 4398046510976) :
    Calls Tryd.prog 9 #[.slice a n c, .slice b n d] w fun e w' => e = .returned (.bool true) ∧ ∃ q, w' = w.drewN q := by
  have h1' : Hid (DRow w a L) := h1
  have h2' : Hid (DRow w b M) := h2
  have hs' : Hid (∀ i (h : i < L.length) (h' : i < M.length), L[i].2.2 = M[i].2.2) := fun i h h' => by
    have := congrArg (fun l => l[i]?) hs
    simpa [sd, h, h'] using this
  have hz' : Hid (∀ r ∈ L, r.2.2.length ≤ 4398046510976) := hz
  have hLM : Hid (L.length = n ∧ M.length = n) := ⟨hL, hM⟩
  have nb : (n : Int) ≤ 5864062014634 := by omega
  clear h1 h2 hs hz hL hM hl
  go_enter Tryd.func9, Tryd.ntmps9
  go_wp2_with fail
  go_loopw [5] (fun iv wr => ∃ i q : Nat, i ≤ n ∧ iv = .int .i64 (i : Int) ∧ Hid (wr = w.drewN q)) (fun iv _ => n - (intOf iv).toNat)
  case atStart => exact ⟨0, 0, Nat.zero_le _, rfl, rfl⟩
  case round =>
    obtain ⟨i, q, hi, rfl, hw⟩ := hrel
    have i0 : (0 : Int) ≤ (i : Int) := Int.natCast_nonneg _
    by_cases hlt : i < n
    · have i1 : (i : Int) < (n : Int) := Int.ofNat_lt.2 hlt
      have hiL : i < L.length := by rw [hLM.out.1]; exact hlt
      have hiM : i < M.length := by rw [hLM.out.2]; exact hlt
      obtain ⟨b1, o1, rfl, c0⟩ := drow_at h1'.out i hiL
      obtain ⟨b2, o2, rfl, d0⟩ := drow_at h2'.out i hiM
      have r1 := (h1'.out.2 _ (List.getElem_mem hiL)).1
      have r2 := (h2'.out.2 _ (List.getElem_mem hiM)).1
      have hsi := hs'.out i hiL hiM
      have hzi := hz'.out _ (List.getElem_mem hiL)
      obtain ⟨⟨pa, pc, ps⟩, hx⟩ : ∃ x, L[i] = x := ⟨_, rfl⟩
      obtain ⟨⟨pa', pc', ps'⟩, hy⟩ : ∃ y, M[i] = y := ⟨_, rfl⟩
      rw [hx] at c0 r1 hsi hzi
      rw [hy] at d0 r2 hsi
      dsimp only at c0 r1 d0 r2 hsi hzi
      subst hsi
      have hE : ∀ a, wr.cell? a = w.cell? a := fun a => by rw [hw.out]; rfl
      obtain ⟨m, hm⟩ : ∃ m, ps.length = m := ⟨_, rfl⟩
      have hS : ∀ k, Hid (Calls Tryd.prog 19 #[.slice pa m pc, .slice pa' m pc'] (wr.drewN k) fun e w' => e = .returned (.bool true) ∧ ∃ m, w' = (wr.drewN k).drewN m) := fun k => by
        have hb : Below w.heap.size w (wr.drewN k) := by rw [hw.out]; exact drewN_below _ _ _ |>.trans (drewN_below _ _ _)
        exact sameRDN_any ps m hm pa pa' pc pc' _ (by omega) (r1.below pV_len hb) (r2.below pV_len hb)
      rw [← hE] at c0 d0
      rw [hm] at c0 d0
      have hlt' : Hid (i < n) := hlt
      clear hE hx hy hm r1 r2 hzi hiL hiM hlt hi
      go_upto_region 6 with fail
      go_quiet ((go_at_call 19; exact Calls.quiet_of (hS _).out))
      go_wp2_with fail
      go_roundw
      case rel => exact ⟨i + 1, _, hlt'.out, by simp, by unfold Hid; rw [hw.out, World.drewN_drewN]⟩
      case measure => have := hlt'.out; simp [intOf]; omega
    · have e : n = i := by omega
      subst e
      have i1 : ¬ (n : Int) < (n : Int) := by omega
      clear hi hlt
      go_wp2_with fail
      go_ret
      exact ⟨rfl, _, hw.out⟩
end Du
end Go.Proofs.YtihjlcclaoofhaaDoor
