import Derived.Test.YtgfonnjblbpogaaBkM
import Derived.Test.YtgfonnjblbpogaaBwSm
import Derived.Lib.AppendZeros
namespace Go.Proofs.Ytgfonnjblbpogaa
open Go.RowKit
set_option linter.unusedVariables false

theorem nodesL_snoc (m : Nat) (D C T : Nat → Int) (M : Nat → Bool) (B : Nat → ByteArray) : nodesL (m + 1) D C T M B = nodesL m D C T M B ++ [⟨D m, C m, M m, T m, B m⟩] := by
  unfold nodesL
  rw [List.range_succ, List.map_append]
  rfl
theorem wr_dn (d : Int) (h : 1 ≤ d) (h' : d ≤ 64) : wrap64 (d - 1) = d - 1 := by unfold wrap64; omega
theorem wr_upk (k : Nat) (h : k ≤ 140737488355328) : wrap64 ((k : Int) + 1) = ((k + 1 : Nat) : Int) := by unfold wrap64; omega
theorem wr_addk (a b : Nat) (h : a + b ≤ 140737488355328) : wrap64 ((a : Int) + (b : Int)) = ((a + b : Nat) : Int) := by unfold wrap64; omega
theorem meas_dn (n k kk : Nat) (h : k < n) (e : kk = k + 1) : n - (intOf (.int .i64 (kk : Int))).toNat < n - (intOf (.int .i64 (k : Int))).toNat := by
  subst e
  simp [intOf]
  omega

set_option maxRecDepth 100000 in
set_option maxHeartbeats 4000000 in
theorem lifted_any (a : Option Addr) (n c : Nat) (D C T : Nat → Int) (M : Nat → Bool) (B : Nat → ByteArray) (at' : Nat) (w : World) (hn : IsNodes w a n D C T M B) (hG : ∀ i, i < n → Good D C T M B i) (hat : at' < n) (h2 : D at' = 2) (hnn : n ≤ 67108864) :
    Calls Try.prog 18 #[.slice a n c, .int .i64 (at' : Int)] w fun r w' => ∃ v, r = .returned (.tuple #[v, .int .i64 (nxt D n at' : Int)]) ∧ OwnN w' w.heap.size v (nodesL (nxt D n at' - at') (fun j => D (at' + j) - 1) (fun j => C (at' + j)) (fun j => T (at' + j)) (fun j => M (at' + j)) (fun j => B (at' + j))) ∧ Below w.heap.size w w' := by
  obtain ⟨f1, f2, f3, f4, _⟩ := nxt_facts hG at' hat
  obtain ⟨e, he⟩ : ∃ e, nxt D n at' = e := ⟨_, rfl⟩
  rw [he] at f1 f2 f3 f4 ⊢
  rw [h2] at f3 f4
  have HH : Hid (IsNodes w a n D C T M B ∧ (∀ i, i < n → Good D C T M B i) ∧ n ≤ 67108864 ∧ (∀ t, at' + 1 ≤ t → t < e → 2 + 1 ≤ D t) ∧ (e < n → D e < 2 + 1) ∧ at' + 1 ≤ e ∧ e ≤ n) := ⟨hn, hG, hnn, f3, f4, f1, f2⟩
  clear hn hG hnn f3 f4 f1 f2 h2 hat he
  go_enter Try.func18, Try.ntmps18
  go_wp2_with fail
  go_loopw [6, 7] (fun lv kv wr => ∃ (k : Nat) (v : Value), lv = v ∧ kv = .int .i64 (k : Int) ∧ at' ≤ k ∧ k ≤ e ∧ Hid (OwnN wr w.heap.size v (nodesL (k - at') (fun j => D (at' + j) - 1) (fun j => C (at' + j)) (fun j => T (at' + j)) (fun j => M (at' + j)) (fun j => B (at' + j))) ∧ Below w.heap.size w wr)) (fun _ kv _ => n - (intOf kv).toNat)
  case atStart => exact ⟨at', _, rfl, rfl, Nat.le_refl _, by have := HH.out.2.2.2.2.2.1; omega, by rw [Nat.sub_self]; exact ownN_nil _ _, Below.refl _ _⟩
  case round =>
    obtain ⟨k, v, hv, rfl, hk1, hk2, HO⟩ := hrel
    have hv' := hv.symm
    clear hv
    subst hv'
    have k0 : (0 : Int) ≤ (k : Int) := Int.natCast_nonneg _
    obtain ⟨_, _, hnn, f3, f4, f1, f2⟩ := HH.out
    by_cases hlt : k < e
    · have k1 : (k : Int) < (n : Int) := by omega
      have hkn : k < n := by omega
      obtain ⟨b, off, rfl, c0, c1, c2, c3, c4⟩ := (HH.out.1.below HO.out.2) k hkn
      obtain ⟨gd1, gd2, gd3, gd4, gd5, gd6, _⟩ := HH.out.2.1 k hkn
      have hgo : Hid (((k : Int) == (at' : Int)) = true ∨ (((k : Int) == (at' : Int)) = false ∧ 2 < D k)) := by
        unfold Hid
        rcases Nat.lt_or_ge at' k with q | q
        · exact Or.inr ⟨by rw [beq_eq_false_iff_ne]; omega, by have := f3 k (by omega) hlt; omega⟩
        · exact Or.inl (by rw [show k = at' from by omega]; simp)
      obtain ⟨kk, hkk⟩ : ∃ kk, kk = k + 1 := ⟨_, rfl⟩
      have hwk : Hid (wrap64 ((k : Int) + 1) = (kk : Int)) := by unfold Hid; rw [hkk]; exact wr_upk k (by omega)
      obtain ⟨d, hd⟩ : ∃ d, D k = d := ⟨_, rfl⟩
      obtain ⟨dm, hdm⟩ : ∃ dm, dm = D k - 1 := ⟨_, rfl⟩
      have hwd : Hid (wrap64 (d - 1) = dm) := by unfold Hid; rw [hdm, ← hd]; exact wr_dn (D k) gd5 gd6
      rw [hd] at c0 hgo
      obtain ⟨W2, hW2⟩ : ∃ W2, wr.alloc (.cells #[.int .i64 dm, .int .i64 (C k), .bool (M k), .int .i64 (T k), .string (B k)] 39) = W2 := ⟨_, rfl⟩
      have hb2 : Below wr.heap.size wr W2 := by rw [← hW2]; exact (Below.refl _ _).alloc (Nat.le_refl _) _
      obtain ⟨W3, hW3⟩ : ∃ W3, W2.alloc (.cells #[.int .i64 dm, .int .i64 (C k), .bool (M k), .int .i64 (T k), .string (B k)] 39) = W3 := ⟨_, rfl⟩
      have hb3 : Below W2.heap.size W2 W3 := by rw [← hW3]; exact (Below.refl _ _).alloc (Nat.le_refl _) _
      have hs2 : W2.heap.size = wr.heap.size + 1 := by rw [← hW2]; simp
      have hsw := HO.out.2.size
      have hb13 : Below w.heap.size w W3 := (HO.out.2.trans (hb2.mono hsw)).trans (hb3.mono (by omega))
      have hg3 : W3.heap[W2.heap.size]? = some (.cells #[.int .i64 dm, .int .i64 (C k), .bool (M k), .int .i64 (T k), .string (B k)] 39 (0, 0)) := by rw [← hW3]; exact World.alloc_heap_new W2 _
      have hlen : (nodesL (k - at') (fun j => D (at' + j) - 1) (fun j => C (at' + j)) (fun j => T (at' + j)) (fun j => M (at' + j)) (fun j => B (at' + j))).length ≤ 4294967296 := by rw [nodesL_len]; omega
      obtain ⟨g', cap, W4, e4, o4, gr4⟩ := appendN_one W3 w.heap.size v _ ⟨dm, C k, M k, T k, B k⟩ W2.heap.size (ownN_below (ownN_below HO.out.1 hb2) hb3) hg3 hb13.size hlen
      have hb4 : Below w.heap.size W3 W4 := (Below.refl _ _).grown gr4 hb13.size (fun j hj => (World.ownsRow.lt (show W3.ownsRow w.heap.size 39 5 v _ (nv _) from ownN_below (ownN_below HO.out.1 hb2) hb3) _ hj).1)
      rw [nodesL_len] at e4 o4
      have hfin : Hid (OwnN W4 w.heap.size (.slice (some ⟨g', 0, none⟩) (k - at' + 1) cap) (nodesL (kk - at') (fun j => D (at' + j) - 1) (fun j => C (at' + j)) (fun j => T (at' + j)) (fun j => M (at' + j)) (fun j => B (at' + j))) ∧ Below w.heap.size w W4) := by
        refine ⟨?_, hb13.trans hb4⟩
        rw [show kk - at' = (k - at') + 1 from by omega, nodesL_snoc]
        rw [show at' + (k - at') = k from by omega, ← hdm]
        exact o4
      have hlt' : Hid (k < n ∧ kk ≤ e ∧ at' ≤ kk ∧ kk = k + 1) := ⟨hkn, by omega, by omega, hkk⟩
      have q0 : W2.cell? ⟨wr.heap.size, 0, none⟩ = some (.int .i64 dm) := by rw [← hW2]; simp [go_sem]
      have q1 : W2.cell? ⟨wr.heap.size, 1, none⟩ = some (.int .i64 (C k)) := by rw [← hW2]; simp [go_sem]
      have q2 : W2.cell? ⟨wr.heap.size, 2, none⟩ = some (.bool (M k)) := by rw [← hW2]; simp [go_sem]
      have q3 : W2.cell? ⟨wr.heap.size, 3, none⟩ = some (.int .i64 (T k)) := by rw [← hW2]; simp [go_sem]
      have q4 : W2.cell? ⟨wr.heap.size, 4, none⟩ = some (.string (B k)) := by rw [← hW2]; simp [go_sem]
      have hwd' := hwd.out
      have hwk' := hwk.out
      generalize C k = ck at *
      generalize T k = tk at *
      generalize M k = mk at *
      generalize B k = bk at *
      clear HO HH hb2 hb3 hb13 hb4 hg3 hlen gr4 o4 gd1 gd2 gd3 gd4 gd5 gd6 hd hdm hkk hk1 hk2 hlt hkn hnn f3 f4 f1 f2 hsw hwd hwk hs2
      rcases hgo.out with hq | ⟨hq, hq2⟩
      all_goals
        clear hgo
        go_wp2_with (at_builtin; refine Lib.wpList_append_run _ rfl _ _ _ _ rfl _ _ rfl rfl _ _ e4 ?_; clear e4)
        rw [hwk']
        exact ⟨⟨kk, _, rfl, rfl, hlt'.out.2.2.1, hlt'.out.2.1, hfin.out⟩, meas_dn n k kk hlt'.out.1 hlt'.out.2.2.2⟩
    · obtain rfl : k = e := by omega
      obtain ⟨va, vc, rfl, _⟩ := ownN_any HO.out.1
      rw [nodesL_len] at HO ⊢
      have hwl : Hid (wrap64 ((at' : Int) + ((k - at' : Nat) : Int)) = (k : Int)) := by unfold Hid; rw [wr_addk _ _ (by omega)]; congr 1; omega
      obtain ⟨kl, hkl⟩ : ∃ kl, kl = k - at' := ⟨_, rfl⟩
      have HF : Hid (OwnN wr w.heap.size (.slice va kl vc) (nodesL (k - at') (fun j => D (at' + j) - 1) (fun j => C (at' + j)) (fun j => T (at' + j)) (fun j => M (at' + j)) (fun j => B (at' + j))) ∧ Below w.heap.size w wr) := by rw [hkl]; exact HO.out
      rw [← hkl] at hwl ⊢
      have hwl' := hwl.out
      by_cases hkn : k < n
      · have k1 : (k : Int) < (n : Int) := by omega
        obtain ⟨b, off, rfl, c0, _⟩ := (HH.out.1.below HO.out.2) k hkn
        have hq : ((k : Int) == (at' : Int)) = false := by rw [beq_eq_false_iff_ne]; omega
        have hq2 : ¬ 2 < D k := by have := f4 hkn; omega
        obtain ⟨dk, hdk⟩ : ∃ dk, D k = dk := ⟨_, rfl⟩
        rw [hdk] at c0 hq2
        clear hdk
        clear HH hnn f3 f4 f1 f2 hkl hwl hk1 hk2 hlt hkn
        go_wp2_with fail
        refine bodyPost_ret_by (v := .tuple #[.slice va kl vc, .int .i64 (k : Int)]) (by simp [results, Try.results18]) rfl ⟨_, rfl, HF.out.1, HF.out.2⟩
      · have k1 : ¬ (k : Int) < (n : Int) := by omega
        clear HH hnn f3 f4 f1 f2 hkl hwl hk1 hk2 hlt hkn
        go_wp2_with fail
        refine bodyPost_ret_by (v := .tuple #[.slice va kl vc, .int .i64 (k : Int)]) (by simp [results, Try.results18]) rfl ⟨_, rfl, HF.out.1, HF.out.2⟩
end Go.Proofs.Ytgfonnjblbpogaa
