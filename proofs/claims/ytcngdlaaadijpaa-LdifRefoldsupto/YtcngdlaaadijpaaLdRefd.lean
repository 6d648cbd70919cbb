import Derived.Test.YtcngdlaaadijpaaLdFold
namespace Go.Proofs.Ytcngdlaaadijpaa
open Go.RowKit
open LdMath

/-- What Refold answers. -/
def rfT (PL : List (Nat × List UInt8)) (d : Int) : List UInt8 := if d < 2 then [] else flds d.toNat (outL PL)
def rfE (PL : List (Nat × List UInt8)) (d : Int) : Nat × Nat := if d < 2 then (1, 0) else outE PL
theorem ferr_val : ∀ (l : List (Nat × List UInt8)) (a : List UInt8) (p : Nat × Nat), ferr a l = some p → p.1 = 70 ∨ p.1 = 71
  | [], _, _, h => by cases h
  | x :: l, a, p, h => by
    unfold ferr at h
    cases hf : flt a x.2 with
    | none => rw [hf] at h; exact ferr_val l x.2 p h
    | some e =>
      rw [hf] at h
      injection h with h
      subst h
      unfold flt at hf
      split at hf
      · injection hf with hf; exact .inl hf.symm
      · split at hf
        · injection hf with hf; exact .inr hf.symm
        · cases hf
theorem isB_alloc {B b : Nat} {l : List UInt8} {w : World} (h : IsB B b l w) (o : Obj) : IsB B b l (w.alloc o) := by
  have key : ∀ p, Lib.BuilderAt 43 5 B b p (bv l) w → Lib.BuilderAt 43 5 B b p (bv l) (w.alloc o) := by
    rintro p ⟨hB, v, hb, hown, hne⟩
    exact ⟨hB, v, (Below.heap_alloc _ _ _ (Array.getElem?_eq_some_iff.1 hb).1).trans hb, hown.alloc _, hne⟩
  exact h.elim (fun x => .inl (key _ x)) (fun x => .inr (key _ x))
theorem flds_take (k : Nat) (L : List (Nat × List UInt8)) (i : Nat) (h : i < L.length) : flds k (L.take (i + 1)) = flds k (L.take i) ++ fld k L[i].2 := by rw [take_next L i h, flds_snoc]

set_option maxRecDepth 100000 in
set_option maxHeartbeats 2000000 in
theorem refold_any (s : ByteArray) (hs : s.size ≤ 1048576) (d : Int) (hd : d ≤ 9223372036854775807) (w : World) :
    Calls Try.prog 8 #[.string s, .int .i64 d] w fun e w' => e = .returned (.tuple #[.string (S (rfT (phys s.data.toList) d)), .int .i64 ((rfE (phys s.data.toList) d).1 : Int), .int .i64 ((rfE (phys s.data.toList) d).2 : Int)]) ∧ Below w.heap.size w w' := by
  by_cases h2 : d < 2
  · have e1 : rfT (phys s.data.toList) d = [] := by unfold rfT; rw [if_pos h2]
    have e2 : rfE (phys s.data.toList) d = (1, 0) := by unfold rfE; rw [if_pos h2]
    rw [e1, e2]
    go_enter Try.func8, Try.ntmps8
    go_wp2_with fail
    go_ret3
    exact ⟨rfl, Below.refl _ _⟩
  · obtain ⟨k, rfl⟩ : ∃ k : Nat, d = (k : Int) := ⟨d.toNat, by omega⟩
    have hk : 2 ≤ k := by omega
    have hk2 : k ≤ 9223372036854775807 := by omega
    have e1 : rfT (phys s.data.toList) (k : Int) = flds k (outL (phys s.data.toList)) := by unfold rfT; rw [if_neg h2, Int.toNat_natCast]
    have e2 : rfE (phys s.data.toList) (k : Int) = outE (phys s.data.toList) := by unfold rfE; rw [if_neg h2]
    rw [e1, e2]
    have hU : Hid (Calls Try.prog 10 #[.string s] w fun e w' => ∃ v er ln, e = .returned (.tuple #[v, .agg #[.int .i64 ((er : Nat) : Int), .int .i64 ((ln : Nat) : Int)]]) ∧ UnfIs s.data.toList w.heap.size w' v er ln ∧ Below w.heap.size w w') := unfold_any s hs w
    have hlenP : (outL (phys s.data.toList)).length ≤ 1048577 := outL_len s hs
    have htot : ltot (outL (phys s.data.toList)) ≤ 1048576 := by
      have h1 := joinS_ltot (phys s.data.toList)
      have h2 := phys_tot s.data.toList
      rw [size_l] at h2
      unfold outL
      split
      · exact Nat.zero_le _
      · omega
    obtain ⟨PL, hPL⟩ : ∃ PL, phys s.data.toList = PL := ⟨_, rfl⟩
    unfold UnfIs at hU
    rw [hPL] at hU hlenP htot ⊢
    obtain ⟨L, hL⟩ : ∃ L, outL PL = L := ⟨_, rfl⟩
    obtain ⟨n, hn⟩ : ∃ n, L.length = n := ⟨_, rfl⟩
    obtain ⟨ex, hex⟩ : ∃ ex, (outE PL).1 = ex := ⟨_, rfl⟩
    obtain ⟨ey, hey⟩ : ∃ ey, (outE PL).2 = ey := ⟨_, rfl⟩
    have hor : (ex = 70 ∨ ex = 71) ∧ L = [] ∨ ex = 0 ∧ ey = 0 := by
      rw [← hex, ← hey, ← hL]
      unfold outE outL
      cases hf : ferr [] PL with
      | some p => exact .inl ⟨ferr_val PL [] p hf, rfl⟩
      | none => exact .inr ⟨rfl, rfl⟩
    rw [hL] at hlenP htot ⊢
    rw [hex, hey]
    have hU' : Hid (Calls Try.prog 10 #[.string s] w fun e w' => ∃ a c, e = .returned (.tuple #[.slice a n c, .agg #[.int .i64 (ex : Int), .int .i64 (ey : Int)]]) ∧ LinR w' a L ∧ Below w.heap.size w w') := by
      refine hU.out.mono ?_
      rintro e w' ⟨v, er, ln, rfl, h1, h2⟩
      obtain ⟨⟨a, c, rfl, h3⟩, rfl, rfl⟩ := unf_out h1
      rw [hL] at h3 ⊢
      rw [hn, hex, hey]
      exact ⟨a, c, rfl, h3, h2⟩
    have hH : Hid (L.length = n ∧ n ≤ 1048577 ∧ ltot L ≤ 1048576 ∧ 2 ≤ k ∧ k ≤ 9223372036854775807) := ⟨hn, by omega, htot, hk, hk2⟩
    have hk3 : ¬ ((k : Int) < 2) := h2
    clear hU hL hex hey hlenP htot hPL e1 e2 hn hk2 hs
    rcases hor with ⟨hor, rfl⟩ | ⟨rfl, rfl⟩
    · have hx0 : ((ex : Int) != 0) = true := by simp only [bne_iff_ne, ne_eq]; omega
      have hfl : Hid (flds k ([] : List (Nat × List UInt8)) = []) := rfl
      clear hor
      go_enter Try.func8, Try.ntmps8
      go_upto_region 5 with (go_at_call 10; refine hU'.out.mono ?_; rintro e w1 ⟨a, c, rfl, hR, hb1⟩)
      obtain ⟨W2, hW2⟩ : ∃ W2, w1.alloc (.cells #[.int .i64 (ex : Int), .int .i64 (ey : Int)] 34) = W2 := ⟨_, rfl⟩
      rw [hW2]
      have g2 : W2.heap[w1.heap.size]? = some (.cells #[.int .i64 (ex : Int), .int .i64 (ey : Int)] 34 (0, 0)) := by rw [← hW2]; exact heap_alloc_last w1 _
      have c0 : W2.cell? ⟨w1.heap.size, 0, none⟩ = some (.int .i64 (ex : Int)) := by rw [cell_of_row W2 _ 0 _ _ _ g2]; rfl
      have c1 : W2.cell? ⟨w1.heap.size, 1, none⟩ = some (.int .i64 (ey : Int)) := by rw [cell_of_row W2 _ 1 _ _ _ g2]; rfl
      have hb2 : Below w1.heap.size w1 W2 := by rw [← hW2]; exact (Below.refl _ _).alloc (Nat.le_refl _) _
      clear hW2 g2 hU' hR
      go_region_held3 (fun w' => w'.cell? ⟨w1.heap.size, 0, none⟩ = some (.int .i64 (ex : Int)) ∧ w'.cell? ⟨w1.heap.size, 1, none⟩ = some (.int .i64 (ey : Int)))
        (go_keep)
        (fail)
      go_wp2_with fail
      go_ret3
      have hb3 : Below w1.heap.size w1 W2.drew := hb2.drew
      exact ⟨rfl, hb1.trans (hb3.mono hb1.size)⟩
    · go_enter Try.func8, Try.ntmps8
      go_wp2_with (go_at_call 10; refine hU'.out.mono ?_; rintro e w1 ⟨a, c, rfl, hR, hb1⟩)
      have hI0 : IsB (w1.heap.size + 1) (w1.heap.size + 1) [] ((w1.alloc (.cells #[.int .i64 0, .int .i64 0] 34)).alloc (.cells #[.pointer none, .slice none 0 0] 43)) := by
        have h := Lib.fresh_isBuilder 43 5 (w1.alloc (.cells #[.int .i64 0, .int .i64 0] 34))
        rw [World.size_alloc] at h
        exact h
      obtain ⟨W3, hW3⟩ : ∃ W3, (w1.alloc (.cells #[.int .i64 0, .int .i64 0] 34)).alloc (.cells #[.pointer none, .slice none 0 0] 43) = W3 := ⟨_, rfl⟩
      rw [hW3] at hI0 ⊢
      have hb3 : Below w1.heap.size w1 W3 := by rw [← hW3]; exact ((Below.refl _ _).alloc (Nat.le_refl _) _).alloc (by simp) _
      have hs3 : W3.heap.size = w1.heap.size + 2 := by rw [← hW3]; simp
      obtain ⟨bb, hbb⟩ : ∃ bb, w1.heap.size + 1 = bb := ⟨_, rfl⟩
      rw [hbb] at hI0 ⊢
      have hK : Hid (LinR w1 a L ∧ Below w.heap.size w w1 ∧ Below w1.heap.size w1 W3 ∧ W3.heap.size = w1.heap.size + 2 ∧ w1.heap.size + 1 = bb) := ⟨hR, hb1, hb3, hs3, hbb⟩
      have hI0' : Hid (IsB bb bb [] W3) := hI0
      clear hR hb1 hb3 hs3 hbb hI0 hW3 hU'
      go_loopw [28] (fun iv wr => ∃ i : Nat, i ≤ n ∧ iv = .int .i64 (i : Int) ∧ Hid (IsB bb bb (flds k (L.take i)) wr) ∧ Hid (Below bb W3 wr)) (fun iv _ => n - (intOf iv).toNat)
      case atStart => exact ⟨0, Nat.zero_le _, rfl, hI0', Below.refl _ _⟩
      case round =>
        obtain ⟨i, hle, rfl, hIi, hB⟩ := hrel
        clear hI0'
        obtain ⟨h1, h2, h3, h4, h5⟩ := hH.out
        obtain ⟨k1, k2, k3, k4, k5⟩ := hK.out
        have hBw : Below w1.heap.size w1 wr := k3.trans (hB.out.mono (by omega))
        have hHB : Hid (Below w.heap.size w wr) := k2.trans (hBw.mono k2.size)
        have hwz : bb ≤ wr.heap.size := by have := hB.out.size; omega
        have i0 : (0 : Int) ≤ (i : Int) := Int.natCast_nonneg _
        have i1 : (i : Int) < 1048578 := by omega
        by_cases hlt : i < n
        · have hiL : i < L.length := by omega
          obtain ⟨g, rfl, c0, c1⟩ := (k1.below hBw) i hiL
          obtain ⟨z, hz⟩ : ∃ z, (L[i].1 : Int) = z := ⟨_, rfl⟩
          obtain ⟨x, hx⟩ : ∃ x, L[i].2 = x := ⟨_, rfl⟩
          rw [hz] at c0
          rw [hx] at c1
          have hft := flds_take k L i hiL
          rw [hx] at hft
          have hxl : x.length ≤ 1048576 := by
            have h6 := ltot_pre (List.take_prefix (i + 1) L)
            rw [take_next L i hiL, ltot_snoc, hx] at h6
            omega
          have hfl : (flds k (L.take i)).length ≤ 268435456 := by
            have h6 := flds_len k (L.take i)
            have h7 := ltot_pre (List.take_prefix i L)
            rw [List.length_take] at h6
            omega
          obtain ⟨Wb, hWb⟩ : ∃ Wb, wr.alloc (.cells #[.int .i64 z, .string (S x)] 28) = Wb := ⟨_, rfl⟩
          have hIb : IsB bb bb (flds k (L.take i)) Wb := by rw [← hWb]; exact isB_alloc hIi.out _
          have hbW : Below bb wr Wb := by rw [← hWb]; exact (Below.refl _ _).alloc hwz _
          have gW : Wb.heap[wr.heap.size]? = some (.cells #[.int .i64 z, .string (S x)] 28 (0, 0)) := by rw [← hWb]; exact heap_alloc_last wr _
          have cW : Wb.cell? ⟨wr.heap.size, 1, none⟩ = some (.string (S x)) := by rw [cell_of_row Wb _ 1 _ _ _ gW]; rfl
          have hWF : Hid (Calls Try.prog 13 #[.pointer (some ⟨bb, 0, none⟩), .string (S x), .int .i64 (k : Int)] Wb fun e w' => e = .returned (.tuple #[]) ∧ IsB bb bb (flds k (L.take (i + 1))) w' ∧ Below bb Wb w') := by
            have := writeFolded_any bb bb (flds k (L.take i)) x k Wb hIb (Nat.le_trans hwz hbW.size) h4 h5 hfl hxl
            rw [← hft] at this
            exact this
          have hbW' : Hid (Below bb W3 Wb) := hB.out.trans hbW
          have hWb' : Hid (wr.alloc (.cells #[.int .i64 z, .string (S x)] 28) = Wb) := hWb
          have i2 : (i : Int) < (n : Int) := by omega
          have hlt' : Hid (i < n) := hlt
          clear h1 h2 h3 h4 h5 k1 k2 k3 k4 k5 hBw hwz hiL hft hxl hfl hIb hbW hIi hB hHB gW hlt hle hk hd hz hx
          go_wp2_with (go_at_call 13; refine hWF.out.mono ?_; rintro e w4 ⟨rfl, hI4, hb4⟩)
          go_roundw
          case rel => exact ⟨i + 1, hlt'.out, by simp, hI4, hbW'.out.trans hb4⟩
          case measure => have := hlt'.out; simp [intOf]; omega
        · have hie : n = i := by omega
          subst hie
          have hIf := hIi.out
          rw [List.take_of_length_le (by omega)] at hIf
          have hst : Hid (Calls Try.prog 14 #[.pointer (some ⟨bb, 0, none⟩)] wr fun e w' => e = .returned (.string (S (flds k L))) ∧ Below bb wr w') := bString_any _ _ _ wr hIf hwz
          have hfin : Hid (∀ w', Below bb wr w' → Below w.heap.size w w') := fun w' h => hHB.out.trans (h.mono (by have := k2.size; omega))
          clear h1 h2 h3 h4 h5 k1 k2 k3 k4 k5 hBw hwz hIf hIi hB hHB hlt hle hk hd
          go_wp2_with (go_at_call 14; refine hst.out.mono ?_; rintro e w4 ⟨rfl, hb4⟩)
          go_ret3
          exact ⟨rfl, hfin.out _ hb4⟩
end Go.Proofs.Ytcngdlaaadijpaa
