import Derived.Test.YtkpepbcoeoalkaaDuH
import Derived.Test.YtkpepbcoeoalkaaDuR
namespace Go.Proofs.Ytkpepbcoeoalkaa
namespace Du
open Go.RowKit Go.Lib
set_option linter.unusedVariables false
set_option maxRecDepth 100000

set_option maxHeartbeats 4000000 in
theorem markDN_any (S1 S2 ga n c : Nat) (Os : List PX) (w : World) (hA : MkA S1 S2 w ga n c Os 0 w) (hO : Os.length = n) (hS : S2 ≤ w.heap.size) (hga : ga < S2) (hg : ∀ r ∈ Os, ∀ g, r.1 = some ⟨g, 0, none⟩ → g < S2) (hd : Dst Os) (hz : ∀ r ∈ Os, r.2.2.length ≤ 4398046510976) (hn : n ≤ 5864062014634) :
    Calls Try.prog 8 #[.slice (some ⟨ga, 0, none⟩) n c, .string { data := #[108, 97, 116, 101] }] w fun e w' => (∃ v, e = .returned v) ∧ Md S1 S2 w w' := by
  have nb : (n : Int) ≤ 5864062014634 := by omega
  obtain ⟨M, hM⟩ : ∃ M : ByteArray, M = { data := #[108, 97, 116, 101] } := ⟨_, rfl⟩
  have hMs : M.size ≤ 5864062014634 := by rw [hM]; decide
  rw [← hM]
  clear hM
  have hS' : Hid (S2 ≤ w.heap.size ∧ ga < S2 ∧ (∀ r ∈ Os, ∀ g, r.1 = some ⟨g, 0, none⟩ → g < S2) ∧ Dst Os ∧ (∀ r ∈ Os, r.2.2.length ≤ 4398046510976) ∧ Os.length = n) := ⟨hS, hga, hg, hd, hz, hO⟩
  have hN : Hid (∀ (i : Nat) (W : World), i < n → Calls Try.prog 12 #[.string M, .int .i64 (i : Int)] W fun e w' => (∃ s, e = .returned (.string s)) ∧ Below W.heap.size W w') := fun i W hi => numbered_any M i (by omega) hMs W
  obtain ⟨W0, hW0⟩ : ∃ W0, (w.alloc (.cells #[.slice none 0 0, .slice none 0 0, .slice none 0 0, .slice none 0 0, .string ⟨#[]⟩] 32)).alloc (.cells #[.slice none 0 0, .slice none 0 0, .slice (some ⟨ga, 0, none⟩) n c, .slice none 0 0, .string M] 32) = W0 := ⟨_, rfl⟩
  have hI0 : Hid (MkA S1 S2 w ga n c Os 0 W0 ∧ MkX w ga n c M none 0 0 (Os.take 0) none 0 0 W0) := by
    obtain ⟨Wz, hWz⟩ : ∃ Wz, w.alloc (.cells #[.slice none 0 0, .slice none 0 0, .slice none 0 0, .slice none 0 0, .string ⟨#[]⟩] 32) = Wz := ⟨_, rfl⟩
    rw [hWz] at hW0
    have b1 : Below w.heap.size w Wz := by rw [← hWz]; exact (Below.refl _ _).alloc (Nat.le_refl _) _
    have b2 : Below Wz.heap.size Wz W0 := by rw [← hW0]; exact (Below.refl _ _).alloc (Nat.le_refl _) _
    have e : Wz.heap.size = w.heap.size + 1 := by rw [← hWz]; simp
    refine ⟨(hA.below b1).below b2, ?_, GOwn.nil _ _ _ _ _, rfl, ?_⟩
    · rw [← hW0, ← e]
      exact heap_alloc_new _ _
    · unfold RBx
      rw [b2.block _ (by omega), ← hWz]
      exact heap_alloc_new _ _
  clear hA hO hS hga hg hd hz hn hMs
  go_enter Try.func8, Try.ntmps8
  go_wp2_with fail
  clear hW0
  go_loopw [6] (fun iv wr => ∃ (i : Nat) (ra : Option Addr) (rn rc : Nat), iv = .int .i64 (i : Int) ∧ i ≤ n ∧ Hid (MkA S1 S2 w ga n c Os 0 wr ∧ MkX w ga n c M ra rn rc (Os.take i) none 0 0 wr)) (fun iv _ => n - (intOf iv).toNat)
  case atStart => exact ⟨0, none, 0, 0, rfl, Nat.zero_le _, hI0⟩
  case round =>
    obtain ⟨i, ra, rn, rc, rfl, hi, hQ⟩ := hrel
    clear hI0
    have i0 : (0 : Int) ≤ (i : Int) := Int.natCast_nonneg _
    by_cases hlt : i < n
    · have i1 : (i : Int) < (n : Int) := Int.ofNat_lt.2 hlt
      have hiO : i < Os.length := by rw [hS'.out.2.2.2.2.2]; exact hlt
      have hAd : MkA S1 S2 w ga n c Os 0 wr.drew := hQ.out.1.below (drewN_below wr _ 1)
      have hXd : MkX w ga n c M ra rn rc (Os.take i) none 0 0 wr.drew := hQ.out.2.below (drewN_below wr _ 1)
      have c2 := hAd.cell i hlt hiO
      obtain ⟨g, hg, hgne, hg1, hg2⟩ := hAd.part i hiO (Nat.zero_le _)
      obtain ⟨va, vn, vc, w1, W2, c1, e1, ⟨⟨d1, d1'⟩, d2⟩, hW2, hA2, hX2⟩ := mk_row hAd hXd hS'.out.1 hS'.out.2.1 (by rw [List.length_take]; omega) Os[i].1 Os[i].2.1 Os[i].2.2
      have htk : Os.take i ++ [(Os[i].1, Os[i].2.1, Os[i].2.2)] = Os.take (i + 1) := by
        rw [List.take_add_one, List.getElem?_eq_getElem hiO]
        rfl
      rw [htk] at hX2
      have h2 : Hid (MkA S1 S2 w ga n c Os 0 W2 ∧ MkX w ga n c M va vn vc (Os.take (i + 1)) none 0 0 W2) := ⟨hA2, hX2⟩
      have hgi : Hid (Os[i].1 = some ⟨g, 0, none⟩ ∧ g < S2) := ⟨hg, hS'.out.2.2.1 _ (List.getElem_mem hiO) g hg⟩
      obtain ⟨m, hm⟩ : ∃ m, Os[i].2.2.length = m := ⟨_, rfl⟩
      obtain ⟨pc, hpc⟩ : ∃ pc, Os[i].2.1 = pc := ⟨_, rfl⟩
      have hm' : Hid (Os[i].2.2.length = m ∧ Os[i].2.1 = pc) := ⟨hm, hpc⟩
      have mb : (m : Int) ≤ 4398046510976 := by have := hS'.out.2.2.2.2.1 _ (List.getElem_mem hiO); omega
      rw [hg, hm, hpc] at c2 e1
      have cd : wr.drew.cell? ⟨w.heap.size + 1, 0, none⟩ = some (.slice ra rn rc) ∧ wr.drew.cell? ⟨ga, i, none⟩ = some (.slice (some ⟨g, 0, none⟩) m pc) := ⟨c1, c2⟩
      have hlt' : Hid (i < n ∧ i < Os.length) := ⟨hlt, hiO⟩
      have hwd : wr.drew.alloc (.cells #[.slice (some ⟨g, 0, none⟩) m pc] 36) = (wr.alloc (.cells #[.slice (some ⟨g, 0, none⟩) m pc] 36)).drew := rfl
      have bA : Below wr.drew.heap.size wr.drew (wr.alloc (.cells #[.slice (some ⟨g, 0, none⟩) m pc] 36)).drew := by rw [← hwd]; exact (Below.refl _ _).alloc (Nat.le_refl _) _
      have cdA : (wr.alloc (.cells #[.slice (some ⟨g, 0, none⟩) m pc] 36)).drew.cell? ⟨w.heap.size + 1, 0, none⟩ = some (.slice ra rn rc) ∧ (wr.alloc (.cells #[.slice (some ⟨g, 0, none⟩) m pc] 36)).drew.cell? ⟨ga, i, none⟩ = some (.slice (some ⟨g, 0, none⟩) m pc) := by
        refine ⟨?_, ?_⟩
        · rw [bA.cell (World.block_lt_of_cell? _ _ c1)]; exact c1
        · rw [bA.cell (World.block_lt_of_cell? _ _ c2)]; exact c2
      rw [hwd] at e1
      have cdB : w1.cell? ⟨w.heap.size + 1, 0, none⟩ = some (.slice ra rn rc) ∧ w1.cell? ⟨ga, i, none⟩ = some (.slice (some ⟨g, 0, none⟩) m pc) := ⟨d1, by rw [d1']; exact c2⟩
      clear bA hwd d1'
      clear hA2 hX2 hAd hXd hg hgne hg1 hg2 hm hpc htk hQ hlt hi c1 c2
      go_upto_region 5 with fail
      refine regionP (fun i => i == 1 || i == 5 || i == 6) (fun w' => w'.cell? ⟨w.heap.size + 1, 0, none⟩ = some (.slice ra rn rc) ∧ w'.cell? ⟨ga, i, none⟩ = some (.slice (some ⟨g, 0, none⟩) m pc)) (by kernel_rfl) ?_
      refine RgN.n_takeW 0 ?va1 (by simp only [List.getElem?_toArray, List.getElem?_cons_zero]; exact rfl) (by kernel_rfl) (by kernel_rfl) (by kernel_rfl) rfl (by rfl) ?ya1 ?ra1
      case ya1 =>
        intro w'
        go_simp
        try with_reducible rfl
      case ra1 =>
      simp only [Act.put, List.setIfInBounds_toArray, List.set_cons_zero, List.set_cons_succ]
      refine RgN.n_takeW 2 ?va2 (by simp only [List.getElem?_toArray, List.getElem?_cons_zero, List.getElem?_cons_succ]; exact rfl) (by kernel_rfl) (by kernel_rfl) (by kernel_rfl) rfl (by rfl) ?ya2 ?ra2
      case ya2 =>
        intro w'
        go_simp
        try with_reducible rfl
      case ra2 =>
      simp only [Act.put, List.setIfInBounds_toArray, List.set_cons_zero, List.set_cons_succ]
      refine RgN.n_takeW 3 ?va3 (by simp only [List.getElem?_toArray, List.getElem?_cons_zero, List.getElem?_cons_succ]; exact rfl) (by kernel_rfl) (by kernel_rfl) (by kernel_rfl) rfl (by rfl) ?ya3 ?ra3
      case ya3 =>
        intro w'
        go_simp
        try with_reducible rfl
      case ra3 =>
      simp only [Act.put, List.setIfInBounds_toArray, List.set_cons_zero, List.set_cons_succ]
      refine RgN.n_takeW 4 ?va4 (by simp only [List.getElem?_toArray, List.getElem?_cons_zero, List.getElem?_cons_succ]; exact rfl) (by kernel_rfl) (by kernel_rfl) (by kernel_rfl) rfl (by rfl) ?ya4 ?ra4
      case ya4 =>
        intro w'
        go_simp
        try with_reducible rfl
      case ra4 =>
      simp only [Act.put, List.setIfInBounds_toArray, List.set_cons_zero, List.set_cons_succ]
      refine RgN.n_take 1 ?va5 (by simp only [List.getElem?_toArray, List.getElem?_cons_zero, List.getElem?_cons_succ]; exact rfl) (by kernel_rfl) (by kernel_rfl) (by kernel_rfl) (by kernel_rfl) (by rfl) cd ?ya5 ?ra5
      case ya5 =>
        intro w' hS
        obtain ⟨h0, h1⟩ := hS
        go_simp
        try with_reducible rfl
      case ra5 =>
      simp only [Act.put, List.setIfInBounds_toArray, List.set_cons_zero, List.set_cons_succ]
      refine RgN.n_take 5 ?va6 (by simp only [List.getElem?_toArray, List.getElem?_cons_zero, List.getElem?_cons_succ]; exact rfl) (by kernel_rfl) (by kernel_rfl) (by kernel_rfl) (by kernel_rfl) (by rfl) cd ?ya6 ?ra6
      case ya6 =>
        intro w' hS
        obtain ⟨h0, h1⟩ := hS
        go_simp
        try with_reducible rfl
      case ra6 =>
      simp only [Act.put, List.setIfInBounds_toArray, List.set_cons_zero, List.set_cons_succ]
      refine RgN.n_one 6 (by kernel_rfl) (by simp only [List.getElem?_toArray, List.getElem?_cons_zero, List.getElem?_cons_succ]; exact rfl) (fun K hK => ?_)
      go_simp
      refine hK.out _ _ (fun _ => cdA) ?_
      clear hK K
      try simp only [Act.put, List.setIfInBounds_toArray, List.set_cons_zero, List.set_cons_succ]
      refine RgN.n_one 7 (by kernel_rfl) (by simp only [List.getElem?_toArray, List.getElem?_cons_zero, List.getElem?_cons_succ]; exact rfl) (fun K hK => ?_)
      refine step_run _ (by rfl) _ _ _ _ (by rfl) _ _ (by rfl) (by rfl) _ _ e1 ?_
      refine hK.out _ _ (fun h => by cases h) ?_
      clear hK K
      try simp only [Act.put, List.setIfInBounds_toArray, List.set_cons_zero, List.set_cons_succ]
      refine RgN.n_one 8 (by kernel_rfl) (by simp only [List.getElem?_toArray, List.getElem?_cons_zero, List.getElem?_cons_succ]; exact rfl) (fun K hK => ?_)
      go_simp
      refine hK.out _ _ (fun h => by cases h) ?_
      clear hK K
      try simp only [Act.put, List.setIfInBounds_toArray, List.set_cons_zero, List.set_cons_succ]
      refine RgN.n_one 9 (by kernel_rfl) (by simp only [List.getElem?_toArray, List.getElem?_cons_zero, List.getElem?_cons_succ]; exact rfl) (fun K hK => ?_)
      go_simp
      refine hK.out _ _ (fun h => by cases h) ?_
      clear hK K
      try simp only [Act.put, List.setIfInBounds_toArray, List.set_cons_zero, List.set_cons_succ]
      refine RgN.n_done (by kernel_rfl) ?_ _
      clear cd cdA cdB e1 d1 d2 hW2
      go_wp2_with fail
      go_loopw [7] (fun jv wr => ∃ j : Nat, jv = .int .i64 (j : Int) ∧ j ≤ m ∧ Hid (MkA S1 S2 w ga n c Os 0 wr ∧ MkX w ga n c M va vn vc (Os.take (i + 1)) none 0 0 wr)) (fun jv _ => m - (intOf jv).toNat)
      case atStart => exact ⟨0, rfl, Nat.zero_le _, h2⟩
      case round =>
        obtain ⟨j, rfl, hj, hQ⟩ := hrel
        clear h2
        have j0 : (0 : Int) ≤ (j : Int) := Int.natCast_nonneg _
        have cI := hQ.out.1.cell i hlt'.out.1 hlt'.out.2
        rw [hgi.out.1, hm'.out.1, hm'.out.2] at cI
        by_cases hjm : j < m
        · have j1 : (j : Int) < (m : Int) := Int.ofNat_lt.2 hjm
          have hjm' : Hid (j < m) := hjm
          have z0 : 0 + j * 2 = j * 2 := Nat.zero_add _
          clear hj hjm
          go_upto_region 9 with fail
          have HD : Hid (MkA S1 S2 w ga n c Os 0 wr.drew ∧ MkX w ga n c M va vn vc (Os.take (i + 1)) none 0 0 wr.drew) := ⟨hQ.out.1.below (drewN_below wr _ 1), hQ.out.2.below (drewN_below wr _ 1)⟩
          have cd : wr.drew.cell? ⟨ga, i, none⟩ = some (.slice (some ⟨g, 0, none⟩) m pc) := cI
          go_region_held3 (fun w' => w'.cell? ⟨ga, i, none⟩ = some (.slice (some ⟨g, 0, none⟩) m pc))
            (first | exact cd8 | exact cd9 | exact cd)
            (first | (go_at_call 12; refine (hN.out i wr.drew hlt'.out.1).mono ?_; rintro e w8 ⟨⟨s, rfl⟩, hb8⟩; have hA8 := HD.out.1.below hb8; have hX8 := HD.out.2.below hb8; obtain ⟨⟨u, v, f1, f2⟩, f3, f4, W2, hW2, hA9, hX9⟩ := mk_put hA8 hX8 hS'.out.1 i hlt'.out.2 g hgi.out.1 hgi.out.2 j (by rw [hm'.out.1]; have := hjm'.out; omega) hS'.out.2.2.2.1 s M; have cd8 := hA8.cell i hlt'.out.1 hlt'.out.2; have cd9 := hA9.cell i hlt'.out.1 hlt'.out.2; rw [hgi.out.1, hm'.out.1, hm'.out.2] at cd8 cd9; have H9 : Hid (MkA S1 S2 w ga n c Os 0 W2 ∧ MkX w ga n c M va vn vc (Os.take (i + 1)) none 0 0 W2) := ⟨hA9, hX9⟩; clear hA8 hX8 hA9 hX9 hb8))
          clear cd cd8 cd9 f1 f2 f3 f4 hW2 HD hQ cI
          go_wp2_with fail
          go_roundw
          case rel => exact ⟨j + 1, by simp, hjm'.out, H9⟩
          case measure => have := hjm'.out; simp [intOf]; omega
        · have e : m = j := by omega
          subst e
          have j1 : ¬ (m : Int) < (m : Int) := by omega
          clear hj hjm
          go_wp2_with fail
          go_roundw
          case rel => exact ⟨i + 1, va, vn, vc, by simp, hlt'.out.1, hQ⟩
          case measure => have := hlt'.out.1; simp [intOf]; omega
    · have e : n = i := by omega
      subst e
      have i1 : ¬ (n : Int) < (n : Int) := by omega
      clear hi hlt
      have hOn : Os.take n = Os := List.take_of_length_le (by rw [hS'.out.2.2.2.2.2]; exact Nat.le_refl _)
      rw [hOn] at hQ
      have hrn : rn = n := by rw [hQ.out.2.2.2.1, hS'.out.2.2.2.2.2]
      subst hrn
      obtain ⟨S3, hS3⟩ : ∃ S3, wr.heap.size = S3 := ⟨_, rfl⟩
      have h3 : Hid (rn = rn ∧ w.heap.size + 2 ≤ S3 ∧ ∀ b, (Value.slice ra rn rc).ownBlock = some b → b < S3) := by
        refine ⟨rfl, ?_, fun b hb => ?_⟩
        · have := (Array.getElem?_eq_some_iff.1 hQ.out.2.1).1
          omega
        · have := (World.ownsRow.lt (show wr.ownsRow w.heap.size 36 1 _ _ _ from hQ.out.2.2.1) b hb).2
          omega
      have hI3 : Hid (MkA S1 S2 w ga rn c Os 0 wr ∧ MkX w ga rn c M ra rn rc Os none 0 0 wr ∧ MkL S3 none 0 0 [] wr ∧ ([] : List PX).length = 0 ∧ S3 ≤ wr.heap.size) := ⟨hQ.out.1, hQ.out.2, ⟨GOwn.nil _ _ _ _ _, rfl⟩, rfl, by omega⟩
      clear hQ hOn hS3
      go_wp2_with fail
      go_loopw [8] (fun iv wr => ∃ (k : Nat) (la : Option Addr) (ln lc : Nat) (Ls : List PX), iv = .int .i64 (k : Int) ∧ k ≤ rn ∧ Hid (MkA S1 S2 w ga rn c Os k wr ∧ MkX w ga rn c M ra rn rc Os la ln lc wr ∧ MkL S3 la ln lc Ls wr ∧ Ls.length = k ∧ S3 ≤ wr.heap.size)) (fun iv _ => rn - (intOf iv).toNat)
      case atStart => exact ⟨0, none, 0, 0, [], rfl, Nat.zero_le _, hI3⟩
      case round =>
        obtain ⟨k, la, ln, lc, Ls, rfl, hk, hQ⟩ := hrel
        clear hI3
        have k0 : (0 : Int) ≤ (k : Int) := Int.natCast_nonneg _
        by_cases hlt : k < rn
        · have k1 : (k : Int) < (rn : Int) := Int.ofNat_lt.2 hlt
          have hkO : k < Os.length := by rw [hS'.out.2.2.2.2.2]; exact hlt
          obtain ⟨rb, hrb, _, _⟩ := mkx_cells hQ.out.2.1 k hkO
          subst hrb
          obtain ⟨g, hg, hgne, hg1, hg2⟩ := hQ.out.1.part k hkO (Nat.le_refl _)
          obtain ⟨m, hm⟩ : ∃ m, Os[k].2.2.length = m := ⟨_, rfl⟩
          obtain ⟨pc, hpc⟩ : ∃ pc, Os[k].2.1 = pc := ⟨_, rfl⟩
          have hgi : Hid (Os[k].1 = some ⟨g, 0, none⟩ ∧ g < S2) := ⟨hg, hS'.out.2.2.1 _ (List.getElem_mem hkO) g hg⟩
          have hm' : Hid (Os[k].2.2.length = m ∧ Os[k].2.1 = pc ∧ m ≤ 4398046510976) := ⟨hm, hpc, by have := hS'.out.2.2.2.2.1 _ (List.getElem_mem hkO); omega⟩
          have mb : (m : Int) ≤ 4398046510976 := by have := hm'.out.2.2; omega
          have hcl : Hid (∀ W, MkX w ga rn c M (some ⟨rb, 0, none⟩) rn rc Os la ln lc W → W.cell? ⟨w.heap.size + 1, 0, none⟩ = some (.slice (some ⟨rb, 0, none⟩) rn rc) ∧ W.cell? ⟨rb, k, none⟩ = some (.slice (some ⟨g, 0, none⟩) m pc)) := fun W hW => by
            obtain ⟨rb', e, q1, q2⟩ := mkx_cells hW k hkO
            injection e with e
            injection e with e
            subst e
            rw [hg, hm, hpc] at q2
            exact ⟨q1, q2⟩
          have hlt' : Hid (k < rn ∧ k < Os.length) := ⟨hlt, hkO⟩
          clear hg hgne hg1 hg2 hm hpc hlt hk
          go_upto_region 13 with fail
          have HD : Hid (MkA S1 S2 w ga rn c Os k wr.drew ∧ MkX w ga rn c M (some ⟨rb, 0, none⟩) rn rc Os la ln lc wr.drew ∧ MkL S3 la ln lc Ls wr.drew) := ⟨hQ.out.1.below (drewN_below wr _ 1), hQ.out.2.1.below (drewN_below wr _ 1), hQ.out.2.2.1.below (drewN_below wr _ 1)⟩
          have cd := hcl.out _ HD.out.2.1
          go_region_held3 (fun w' => w'.cell? ⟨w.heap.size + 1, 0, none⟩ = some (.slice (some ⟨rb, 0, none⟩) rn rc) ∧ w'.cell? ⟨rb, k, none⟩ = some (.slice (some ⟨g, 0, none⟩) m pc))
            (first | exact cd9 | exact cdA | exact cd8 | exact cd)
            (first
              | (go_at_call 12; refine (hN.out k wr.drew hlt'.out.1).mono ?_; rintro e w8 ⟨⟨s, rfl⟩, hb8⟩; have hA8 := HD.out.1.below hb8; have hX8 := HD.out.2.1.below hb8; have hL8 := HD.out.2.2.below hb8; have cd8 := hcl.out _ hX8; have cdA := hcl.out _ (hX8.below ((Below.refl w8.heap.size w8).alloc (Nat.le_refl _) (.cells #[.string s, .string M] 38))); obtain ⟨va, vc, w9, ps', e9, hps, hA9, hX9, hL9, hz9⟩ := mk_longer k hA8 hX8 hL8 hS'.out.1 (Nat.le_trans (Nat.le_add_right _ 2) h3.out.2.1) hlt'.out.2 g m pc (by rw [← hgi.out.1, ← hm'.out.2.1]) hm'.out.1 hm'.out.2.2 hgi.out.2 hS'.out.2.2.2.1 s M; have cd9 := hcl.out _ hX9; have H9 : Hid (MkA S1 S2 w ga rn c Os (k + 1) w9 ∧ MkX w ga rn c M (some ⟨rb, 0, none⟩) rn rc Os la ln lc w9 ∧ MkL S3 la ln lc Ls w9 ∧ ps'.length = m + 1 ∧ S3 ≤ w9.heap.size) := ⟨hA9, hX9, hL9, hps, Nat.le_trans (Nat.le_trans hQ.out.2.2.2.2 hb8.size) hz9⟩; clear hA8 hX8 hL8 hA9 hX9 hL9 hps hb8 hz9)
              | (refine step_run _ (by rfl) _ _ _ _ (by rfl) _ _ (by rfl) (by rfl) _ _ e9 ?_; clear e9))
          clear cd cd8 cdA cd9 HD
          obtain ⟨va2, vn2, vc2, w10, u, W11, c1, e10, ⟨d1, d2⟩, hW11, hA11, hX11, hL11, hz11⟩ := mk_long2 H9.out.1 H9.out.2.1 H9.out.2.2.1 h3.out.2.2 hS'.out.1 h3.out.2.1 H9.out.2.2.2.2 hS'.out.2.1 (by have := hQ.out.2.2.2.1; have := hlt'.out.1; omega) va vc ps'
          rw [H9.out.2.2.2.1] at e10
          have H11 : Hid (MkA S1 S2 w ga rn c Os (k + 1) W11 ∧ MkX w ga rn c M (some ⟨rb, 0, none⟩) rn rc Os va2 vn2 vc2 W11 ∧ MkL S3 va2 vn2 vc2 (Ls ++ [(va, vc, ps')]) W11 ∧ (Ls ++ [((va, vc, ps') : PX)]).length = k + 1 ∧ S3 ≤ W11.heap.size) := ⟨hA11, hX11, hL11, by rw [List.length_append, hQ.out.2.2.2.1]; rfl, Nat.le_trans H9.out.2.2.2.2 hz11⟩
          clear hA11 hX11 hL11 hz11 H9 hQ
          go_wp2_with (at_builtin; refine Lib.wpList_append_run _ rfl _ _ _ _ rfl _ _ rfl rfl _ _ e10 ?_; clear e10)
          go_roundw
          case rel => exact ⟨k + 1, va2, vn2, vc2, _, by simp, hlt'.out.1, H11⟩
          case measure => have := hlt'.out.1; simp [intOf]; omega
        · have e : rn = k := by omega
          subst e
          have k1 : ¬ (rn : Int) < (rn : Int) := by omega
          have hI4 : Hid (MkB S1 S2 w ga rn c M wr) := by
            obtain ⟨⟨a1, ⟨Ds, q1, q2, _⟩, _⟩, ⟨x1, _, _, x4⟩, _⟩ := hQ.out
            exact ⟨a1, ⟨Ds, q1, q2⟩, (ra, rn, rc), (la, ln, lc), (some ⟨ga, 0, none⟩, rn, c), x1, x4⟩
          clear hQ hlt hk
          go_wp2_with fail
          go_loopw [10] (fun iv wr => ∃ k : Nat, iv = .int .i64 (k : Int) ∧ k ≤ rn ∧ Hid (MkB S1 S2 w ga rn c M wr)) (fun iv _ => rn - (intOf iv).toNat)
          case atStart => exact ⟨0, rfl, Nat.zero_le _, hI4⟩
          case round =>
            obtain ⟨k, rfl, hk, hQ⟩ := hrel
            clear hI4
            have k0 : (0 : Int) ≤ (k : Int) := Int.natCast_nonneg _
            by_cases hlt : k < rn
            · have k1 : (k : Int) < (rn : Int) := Int.ofNat_lt.2 hlt
              obtain ⟨u, W2, ⟨d1, d2⟩, hW2, hB2⟩ := mk_clear hQ.out hS'.out.1 hS'.out.2.1 k hlt (.cells #[.string M, .string ⟨#[]⟩] 38)
              have hB2' : Hid (MkB S1 S2 w ga rn c M W2) := hB2
              have hlt' : Hid (k < rn) := hlt
              clear hB2 hQ hlt hk
              go_wp2_with fail
              go_roundw
              case rel => exact ⟨k + 1, by simp, hlt'.out, hB2'⟩
              case measure => have := hlt'.out; simp [intOf]; omega
            · have e : rn = k := by omega
              subst e
              have k1 : ¬ (rn : Int) < (rn : Int) := by omega
              obtain ⟨W1, va, vn, vc, w1, u, W2, hW1, e1, ⟨d1, d2⟩, hW2, hMd, x0, x1, x2, hx, hx0⟩ := mk_last hQ.out hS'.out.1 hS'.out.2.1 (by omega)
              obtain ⟨xa, xn, xc⟩ := x0
              obtain ⟨ya, yn, yc⟩ := x1
              obtain ⟨za, zn, zc⟩ := x2
              dsimp only at hx
              have c0 : W2.cell? ⟨w.heap.size + 1, 0, none⟩ = some (.slice xa xn xc) := by rw [cell_of_row _ _ _ _ _ _ hx]; rfl
              have c1 : W2.cell? ⟨w.heap.size + 1, 1, none⟩ = some (.slice ya yn yc) := by rw [cell_of_row _ _ _ _ _ _ hx]; rfl
              have c2 : W2.cell? ⟨w.heap.size + 1, 2, none⟩ = some (.slice za zn zc) := by rw [cell_of_row _ _ _ _ _ _ hx]; rfl
              have c3 : W2.cell? ⟨w.heap.size + 1, 3, none⟩ = some (.slice va vn vc) := by rw [cell_of_row _ _ _ _ _ _ hx]; rfl
              have c4 : W2.cell? ⟨w.heap.size + 1, 4, none⟩ = some (.string M) := by rw [cell_of_row _ _ _ _ _ _ hx]; rfl
              have hst : (((((store (⟨w.heap.size, 0, none⟩ : Addr) (.slice xa xn xc)).run Try.prog W2).andThen fun _ w' => ((store (⟨w.heap.size, 1, none⟩ : Addr) (.slice ya yn yc)).run Try.prog w'))).andThen fun _ w' => .ok () w') = .ok () W2 ∨ True := Or.inr trivial
              have r0 : W2.cell? ⟨w.heap.size, 0, none⟩ = some (.slice none 0 0) := by rw [cell_of_row _ _ _ _ _ _ hx0]; rfl
              have r1 : W2.cell? ⟨w.heap.size, 1, none⟩ = some (.slice none 0 0) := by rw [cell_of_row _ _ _ _ _ _ hx0]; rfl
              have r2 : W2.cell? ⟨w.heap.size, 2, none⟩ = some (.slice none 0 0) := by rw [cell_of_row _ _ _ _ _ _ hx0]; rfl
              have r3 : W2.cell? ⟨w.heap.size, 3, none⟩ = some (.slice none 0 0) := by rw [cell_of_row _ _ _ _ _ _ hx0]; rfl
              have r4 : W2.cell? ⟨w.heap.size, 4, none⟩ = some (.string ⟨#[]⟩) := by rw [cell_of_row _ _ _ _ _ _ hx0]; rfl
              have f0 : W2.frozen? ⟨w.heap.size, 0, none⟩ = false := Go.frozen_of_row _ _ _ _ _ hx0
              have f1 : W2.frozen? ⟨w.heap.size, 1, none⟩ = false := Go.frozen_of_row _ _ _ _ _ hx0
              have f2 : W2.frozen? ⟨w.heap.size, 2, none⟩ = false := Go.frozen_of_row _ _ _ _ _ hx0
              have f3 : W2.frozen? ⟨w.heap.size, 3, none⟩ = false := Go.frozen_of_row _ _ _ _ _ hx0
              have f4 : W2.frozen? ⟨w.heap.size, 4, none⟩ = false := Go.frozen_of_row _ _ _ _ _ hx0
              clear hst
              have hMd' : Hid (Md S1 S2 w W2) := hMd
              have hx0' : W2.heap[w.heap.size]? = some (.cells #[.slice none 0 0, .slice none 0 0, .slice none 0 0, .slice none 0 0, .string ⟨#[]⟩] 32 (0, 0)) := hx0
              clear hMd hQ hlt hk hx hx0
              go_wp2_with (at_builtin; refine Lib.wpList_append_run _ rfl _ _ _ _ rfl _ _ rfl rfl _ _ e1 ?_; clear e1)
              obtain ⟨Wf, hWf⟩ : ∃ Wf, (((((W2.setCell ⟨w.heap.size, 0, none⟩ (.slice xa xn xc)).setCell ⟨w.heap.size, 1, none⟩ (.slice ya yn yc)).setCell ⟨w.heap.size, 2, none⟩ (.slice za zn zc)).setCell ⟨w.heap.size, 3, none⟩ (.slice va vn vc)).setCell ⟨w.heap.size, 4, none⟩ (.string M)) = Wf := ⟨_, rfl⟩
              rw [hWf]
              have hf : Wf.heap[w.heap.size]? = some (.cells #[.slice xa xn xc, .slice ya yn yc, .slice za zn zc, .slice va vn vc, .string M] 32 (0, 0)) := by
                rw [← hWf]
                exact Go.heap_setCell_same _ _ _ _ _ _ (Go.heap_setCell_same _ _ _ _ _ _ (Go.heap_setCell_same _ _ _ _ _ _ (Go.heap_setCell_same _ _ _ _ _ _ (Go.heap_setCell_same _ _ _ _ _ _ hx0'))))
              have hMf : Md S1 S2 w Wf := by
                rw [← hWf]
                exact ((((hMd'.out.set _ _ _ (Or.inr (Nat.le_refl _))).set _ _ _ (Or.inr (Nat.le_refl _))).set _ _ _ (Or.inr (Nat.le_refl _))).set _ _ _ (Or.inr (Nat.le_refl _))).set _ _ _ (Or.inr (Nat.le_refl _))
              refine bodyPost_ret (v := .agg #[.slice xa xn xc, .slice ya yn yc, .slice za zn zc, .slice va vn vc, .string M]) ?_ rfl ⟨⟨_, rfl⟩, hMf⟩
              exact results_cell_row rfl _ _ w.heap.size 32 _ (0, 0) _ rfl hf Try.underlying32 rfl (by kernel_rfl)
end Du
end Go.Proofs.Ytkpepbcoeoalkaa
