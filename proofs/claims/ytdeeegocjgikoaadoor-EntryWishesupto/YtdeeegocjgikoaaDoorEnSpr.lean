import Derived.Test.YtdeeegocjgikoaaDoorEnSame
namespace Go.Proofs.YtdeeegocjgikoaaDoor
open Go.RowKit
set_option linter.unusedVariables false

theorem Mkd.drewN {W : World} {B g cap : Nat} {l : List (List UInt8)} (h : Mkd W B g cap l) (q : Nat) : Mkd (W.drewN q) B g cap l := h.below (drewN_below _ _ _)
theorem CopyA.drewN {W : World} {B g cap : Nat} {xs ys : List Atr} (h : CopyA W B g cap xs ys) (q : Nat) : CopyA (W.drewN q) B g cap xs ys := h.below (drewN_below _ _ _)
theorem pl_sizes {xs ys : List Atr} (h : ys.map pl = xs.map pl) (hl : ∀ x ∈ xs, x.l.length ≤ 1048576) : ∀ y ∈ ys, y.l.length ≤ 1048576 := fun y hy => by
  have h1 : pl y ∈ ys.map pl := List.mem_map_of_mem hy
  rw [h] at h1
  obtain ⟨x, hx, e⟩ := List.mem_map.1 h1
  have e2 : x.l = y.l := congrArg (fun t => t.2.2) e
  rw [← e2]
  exact hl x hx

set_option maxRecDepth 100000 in
set_option maxHeartbeats 2000000 in
theorem attrsSpared_any (xs ys : List Atr) (B g cap : Nat) (b : Option Addr) (d : Nat) (w : World) (hn : xs.length ≤ 1048576) (hl : ∀ x ∈ xs, x.l.length ≤ 1048576) (h1 : CopyA w B g cap xs ys) (h2 : ARow w b xs) :
    Calls Tryd.prog 31 #[.slice (some ⟨g, 0, none⟩) xs.length cap, .slice b xs.length d] w fun e w' => e = .returned (.bool true) ∧ ∃ q, w' = w.drewN q := by
  have hlen := h1.len
  have hS := sameAttrs_any ys xs (some ⟨g, 0, none⟩) b cap d w (by rw [hlen]; exact hn) (pl_sizes h1.2.2 hl) h1.row h2 h1.2.2
  rw [hlen] at hS
  have hS' : Hid (Calls Tryd.prog 10 #[.slice (some ⟨g, 0, none⟩) xs.length cap, .slice b xs.length d] w fun e w' => e = .returned (.bool true) ∧ ∃ q, w' = w.drewN q) := hS
  have h1' : Hid (CopyA w B g cap xs ys) := h1
  have hl2 : Hid (∀ y ∈ ys, y.l.length ≤ 1048576) := pl_sizes h1.2.2 hl
  have hlen' : Hid (ys.length = xs.length) := hlen
  clear hS h1 h2 hl hlen
  go_enter Tryd.func31, Tryd.ntmps31
  go_wp2_with (go_at_call 10; refine hS'.out.mono ?_; rintro e w' ⟨rfl, q0, rfl⟩)
  go_loopw [5] (fun iv wr => ∃ i q : Nat, i ≤ xs.length ∧ iv = .int .i64 (i : Int) ∧ Hid (wr = w.drewN q)) (fun iv _ => xs.length - (intOf iv).toNat)
  case atStart => exact ⟨0, q0, Nat.zero_le _, rfl, rfl⟩
  case round =>
    obtain ⟨i, q, hi, rfl, hw⟩ := hrel
    by_cases hlt : i < xs.length
    · have hlj : i < ys.length := by rw [hlen'.out]; exact hlt
      have hC : CopyA wr B g cap xs ys := by rw [hw.out]; exact h1'.out.drewN q
      obtain ⟨⟨b1, o1, hb1, c0, c1, c2⟩, r1⟩ := hC.row i hlj
      injection hb1 with hb1
      injection hb1 with hb1 ho1
      subst hb1 ho1
      have hM : ∃ g', ys[i].a = some ⟨g', 0, none⟩ ∧ Mkd wr B g' ys[i].n ys[i].l := hC.2.1 _ (List.getElem_mem hlj)
      have hxl := hl2.out _ (List.getElem_mem hlj)
      obtain ⟨⟨xd, xc, xa, xn, xl⟩, hx⟩ : ∃ x, ys[i] = x := ⟨_, rfl⟩
      rw [hx] at c0 c1 c2 hxl hM
      dsimp only at c0 c1 c2 hxl hM
      obtain ⟨g', rfl, hM⟩ := hM
      have hP : Hid (Calls Tryd.prog 22 #[.slice (some ⟨g', 0, none⟩) xl.length xn] wr fun e w' => e = .returned (.bool true) ∧ w' = wr) := spared_any xl B g' xn wr hxl hM
      have i0 : (0 : Int) ≤ (i : Int) := Int.natCast_nonneg _
      have i1 : (i : Int) < (xs.length : Int) := Int.ofNat_lt.2 hlt
      have hlt' : Hid (i < xs.length) := hlt
      rw [Nat.zero_add] at c2
      clear hlj hx hM hC r1 hlt c0 c1
      go_wp2_with (go_at_call 22; refine hP.out.mono ?_; rintro e w' ⟨rfl, rfl⟩)
      go_roundw
      case rel => exact ⟨i + 1, q, hlt'.out, by simp, hw⟩
      case measure => have := hlt'.out; simp [intOf]; omega
    · have e : i = xs.length := by omega
      subst e
      have k1 : ¬ (xs.length : Int) < (xs.length : Int) := by omega
      have hC : CopyA wr B g cap xs ys := by rw [hw.out]; exact h1'.out.drewN q
      have hcl := (ownA_cells hC.1 xs.length (by rw [List.length_append, hlen'.out]; simp)).1
      have hat : (ys ++ [sprA])[xs.length]'(by rw [List.length_append, hlen'.out]; simp) = sprA := by
        rw [List.getElem_append_right (by rw [hlen'.out]; exact Nat.le_refl _)]
        simp [hlen'.out]
      rw [hat] at hcl
      have hS : S sprA.d = ⟨#[115, 112, 97, 114, 101, 32, 114, 111, 111, 109]⟩ := rfl
      rw [hS] at hcl
      have n0 : (0 : Int) ≤ (xs.length : Int) := Int.natCast_nonneg _
      have n1 : xs.length + 1 ≤ cap := hC.lt.2.2
      have n2 : (xs.length : Int) < ((xs.length + 1 : Nat) : Int) := Int.ofNat_lt.2 (Nat.lt_succ_self _)
      have n3 : wrap64 ((xs.length : Int) + 1) = ((xs.length + 1 : Nat) : Int) := by
        rw [IntWalk.wrap64_in] <;> omega
      have n4 : (0 : Int) ≤ ((xs.length + 1 : Nat) : Int) := Int.natCast_nonneg _
      clear hC hat hS
      generalize hnn : xs.length + 1 = n at *
      clear hnn
      go_wp2_with fail
      go_ret
      exact ⟨rfl, _, hw.out⟩

set_option maxRecDepth 100000 in
set_option maxHeartbeats 2000000 in
theorem sameEntry_any (ln : Int) (nm : ByteArray) (kl : List (List UInt8)) (ka ka' : Option Addr) (kc kc' : Nat) (xs ys : List Atr) (a a' : Option Addr) (c c' : Nat) (w : World) (hkl : kl.length ≤ 1048576) (hn : xs.length ≤ 1048576) (hl : ∀ x ∈ xs, x.l.length ≤ 1048576) (hk : Row w ka kl) (hk' : Row w ka' kl) (h : ARow w a xs) (h' : ARow w a' ys) (he : xs.map pl = ys.map pl) :
    Calls Tryd.prog 32 #[.agg #[.int .i64 ln, .string nm, .slice ka kl.length kc, .slice a xs.length c], .agg #[.int .i64 ln, .string nm, .slice ka' kl.length kc', .slice a' xs.length c']] w fun e w' => e = .returned (.bool true) ∧ Below w.heap.size w w' := by
  obtain ⟨Wa, hWa⟩ : ∃ W, w.alloc (.cells #[.int .i64 ln, .string nm, .slice ka kl.length kc, .slice a xs.length c] 25) = W := ⟨_, rfl⟩
  obtain ⟨Wb, hWb⟩ : ∃ W, Wa.alloc (.cells #[.int .i64 ln, .string nm, .slice ka' kl.length kc', .slice a' xs.length c'] 25) = W := ⟨_, rfl⟩
  have na : Wa.heap.size = w.heap.size + 1 := by rw [← hWa]; simp
  have pa : Box Wa w.heap.size 25 #[.int .i64 ln, .string nm, .slice ka kl.length kc, .slice a xs.length c] := by rw [← hWa]; exact Box.new _ _ _
  have p : Box Wb w.heap.size 25 #[.int .i64 ln, .string nm, .slice ka kl.length kc, .slice a xs.length c] := by rw [← hWb]; exact pa.past _
  have q : Box Wb (w.heap.size + 1) 25 #[.int .i64 ln, .string nm, .slice ka' kl.length kc', .slice a' xs.length c'] := by rw [← hWb, ← na]; exact Box.new _ _ _
  have hB : Below w.heap.size w Wb := by
    rw [← hWb, ← hWa]
    exact ((Below.refl _ _).alloc (Nat.le_refl _) _).alloc (by simp) _
  have hT : Hid (Calls Tryd.prog 18 #[.slice ka kl.length kc, .slice ka' kl.length kc'] Wb fun e w' => e = .returned (.bool true) ∧ ∃ q, w' = Wb.drewN q) := sameT_any kl ka ka' kc kc' Wb (by omega) (hk.below hB) (hk'.below hB)
  have hA : ∀ n, Hid (Calls Tryd.prog 10 #[.slice a xs.length c, .slice a' xs.length c'] (Wb.drewN n) fun e w' => e = .returned (.bool true) ∧ ∃ q, w' = (Wb.drewN n).drewN q) := fun n => sameAttrs_any xs ys a a' c c' _ hn hl ((h.below hB).below (drewN_below _ _ _)) ((h'.below hB).below (drewN_below _ _ _)) he
  obtain ⟨c0, _⟩ := p.cell 0 (by simp)
  obtain ⟨c1, _⟩ := p.cell 1 (by simp)
  obtain ⟨c2, _⟩ := p.cell 2 (by simp)
  obtain ⟨c3, _⟩ := p.cell 3 (by simp)
  obtain ⟨d0, _⟩ := q.cell 0 (by simp)
  obtain ⟨d1, _⟩ := q.cell 1 (by simp)
  obtain ⟨d2, _⟩ := q.cell 2 (by simp)
  obtain ⟨d3, _⟩ := q.cell 3 (by simp)
  simp only [List.getElem_toArray, List.getElem_cons_zero, List.getElem_cons_succ] at c0 c1 c2 c3 d0 d1 d2 d3
  have hB' : Hid (Below w.heap.size w Wb) := hB
  clear pa p q hB h h' hk hk' he hl
  go_enter Tryd.func32, Tryd.ntmps32
  go_wp2_with (first | (go_at_call 18; refine hT.out.mono ?_; rintro e w' ⟨rfl, q1, rfl⟩) | (go_at_call 10; refine (hA _).out.mono ?_; rintro e w' ⟨rfl, q2, rfl⟩))
  go_ret
  exact ⟨rfl, hB'.out.trans (drewN_below _ _ _)⟩

set_option maxRecDepth 100000 in
set_option maxHeartbeats 2000000 in
theorem entrySpared_any (ln : Int) (nm : ByteArray) (kl : List (List UInt8)) (B gk ck : Nat) (ka : Option Addr) (kc : Nat) (xs ys : List Atr) (g cap : Nat) (a : Option Addr) (c : Nat) (w : World) (hkl : kl.length ≤ 1048576) (hn : xs.length ≤ 1048576) (hl : ∀ x ∈ xs, x.l.length ≤ 1048576) (hM : Mkd w B gk ck kl) (hC : CopyA w B g cap xs ys) (hk : Row w ka kl) (h : ARow w a xs) :
    Calls Tryd.prog 19 #[.agg #[.int .i64 ln, .string nm, .slice (some ⟨gk, 0, none⟩) kl.length ck, .slice (some ⟨g, 0, none⟩) xs.length cap], .agg #[.int .i64 ln, .string nm, .slice ka kl.length kc, .slice a xs.length c]] w fun e w' => e = .returned (.bool true) ∧ Below w.heap.size w w' := by
  obtain ⟨Wa, hWa⟩ : ∃ W, w.alloc (.cells #[.int .i64 ln, .string nm, .slice (some ⟨gk, 0, none⟩) kl.length ck, .slice (some ⟨g, 0, none⟩) xs.length cap] 25) = W := ⟨_, rfl⟩
  obtain ⟨Wb, hWb⟩ : ∃ W, Wa.alloc (.cells #[.int .i64 ln, .string nm, .slice ka kl.length kc, .slice a xs.length c] 25) = W := ⟨_, rfl⟩
  have na : Wa.heap.size = w.heap.size + 1 := by rw [← hWa]; simp
  have pa : Box Wa w.heap.size 25 #[.int .i64 ln, .string nm, .slice (some ⟨gk, 0, none⟩) kl.length ck, .slice (some ⟨g, 0, none⟩) xs.length cap] := by rw [← hWa]; exact Box.new _ _ _
  have p : Box Wb w.heap.size 25 #[.int .i64 ln, .string nm, .slice (some ⟨gk, 0, none⟩) kl.length ck, .slice (some ⟨g, 0, none⟩) xs.length cap] := by rw [← hWb]; exact pa.past _
  have q : Box Wb (w.heap.size + 1) 25 #[.int .i64 ln, .string nm, .slice ka kl.length kc, .slice a xs.length c] := by rw [← hWb, ← na]; exact Box.new _ _ _
  have hB : Below w.heap.size w Wb := by
    rw [← hWb, ← hWa]
    exact ((Below.refl _ _).alloc (Nat.le_refl _) _).alloc (by simp) _
  have hMb := hM.below hB
  have hCb := hC.below hB
  have hkb := hk.below hB
  have hb := h.below hB
  have hA : Hid (Calls Tryd.prog 31 #[.slice (some ⟨g, 0, none⟩) xs.length cap, .slice a xs.length c] Wb fun e w' => e = .returned (.bool true) ∧ ∃ q, w' = Wb.drewN q) := attrsSpared_any xs ys B g cap a c Wb hn hl hCb hb
  have hlen := hC.len
  have hE : ∀ n, Hid (Calls Tryd.prog 32 #[.agg #[.int .i64 ln, .string nm, .slice (some ⟨gk, 0, none⟩) kl.length ck, .slice (some ⟨g, 0, none⟩) xs.length cap], .agg #[.int .i64 ln, .string nm, .slice ka kl.length kc, .slice a xs.length c]] (Wb.drewN n) fun e w' => e = .returned (.bool true) ∧ Below (Wb.drewN n).heap.size (Wb.drewN n) w') := fun n => by
    have hz := sameEntry_any ln nm kl (some ⟨gk, 0, none⟩) ka ck kc ys xs (some ⟨g, 0, none⟩) a cap c (Wb.drewN n) hkl (by rw [hlen]; exact hn) (pl_sizes hC.2.2 hl) (hMb.drewN n).row.front (hkb.below (drewN_below _ _ _)) (hCb.drewN n).row (hb.below (drewN_below _ _ _)) hC.2.2
    rw [hlen] at hz
    exact hz
  have hP : ∀ W, Below Wb.heap.size Wb W → Hid (Calls Tryd.prog 22 #[.slice (some ⟨gk, 0, none⟩) kl.length ck] W fun e w' => e = .returned (.bool true) ∧ w' = W) := fun W hW => spared_any kl B gk ck W hkl (hMb.below hW)
  obtain ⟨c0, _⟩ := p.cell 0 (by simp)
  obtain ⟨c1, _⟩ := p.cell 1 (by simp)
  obtain ⟨c2, _⟩ := p.cell 2 (by simp)
  obtain ⟨c3, _⟩ := p.cell 3 (by simp)
  obtain ⟨d0, _⟩ := q.cell 0 (by simp)
  obtain ⟨d1, _⟩ := q.cell 1 (by simp)
  obtain ⟨d2, _⟩ := q.cell 2 (by simp)
  obtain ⟨d3, _⟩ := q.cell 3 (by simp)
  simp only [List.getElem_toArray, List.getElem_cons_zero, List.getElem_cons_succ] at c0 c1 c2 c3 d0 d1 d2 d3
  have hB' : Hid (Below w.heap.size w Wb ∧ Box Wb w.heap.size 25 #[.int .i64 ln, .string nm, .slice (some ⟨gk, 0, none⟩) kl.length ck, .slice (some ⟨g, 0, none⟩) xs.length cap]) := ⟨hB, p⟩
  clear pa p q hB h hk hl hM hC hMb hCb hkb hb hlen
  go_enter Tryd.func19, Tryd.ntmps19
  go_wp2_with (first | (go_at_call 31; refine hA.out.mono ?_; rintro e w' ⟨rfl, q1, rfl⟩) | (go_at_call 32; refine (hE _).out.mono ?_; rintro e w2 ⟨rfl, hb2⟩; have hP2 := hP w2 ((drewN_below _ _ _).trans hb2); have e2 : w2.cell? ⟨w.heap.size, 2, none⟩ = some (.slice (some ⟨gk, 0, none⟩) kl.length ck) := ((hB'.out.2.below ((drewN_below _ _ q1).trans hb2)).cell 2 (by simp)).1) | (go_at_call 22; refine hP2.out.mono ?_; rintro e w' ⟨rfl, rfl⟩))
  go_ret
  exact ⟨rfl, hB'.out.1.trans (((drewN_below _ _ _).trans hb2).mono hB'.out.1.size)⟩
end Go.Proofs.YtdeeegocjgikoaaDoor
