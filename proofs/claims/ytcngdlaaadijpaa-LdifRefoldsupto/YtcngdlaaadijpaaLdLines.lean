import Derived.Test.YtcngdlaaadijpaaLdRLin
import Derived.Laws.StructEq
namespace Go.Proofs.Ytcngdlaaadijpaa
open Go.RowKit
open LdMath

/-- What Lines answers: the lines, the error, the place. -/
def outL (PL : List (Nat × List UInt8)) : List (Nat × List UInt8) := match ferr [] PL with | some _ => [] | none => joinS PL
def outE (PL : List (Nat × List UInt8)) : Nat × Nat := match ferr [] PL with | some p => p | none => (0, 0)
/-- A row of lines. -/
def LinR (w : World) (a : Option Addr) (L : List (Nat × List UInt8)) : Prop := ∀ i (h : i < L.length), ∃ g, a = some ⟨g, 0, none⟩ ∧ w.cell? ⟨g, i * 2, none⟩ = some (.int .i64 (L[i].1 : Int)) ∧ w.cell? ⟨g, i * 2 + 1, none⟩ = some (.string (S L[i].2))
theorem LinR.below {w w' : World} {a : Option Addr} {L : List (Nat × List UInt8)} (h : LinR w a L) (hb : Below w.heap.size w w') : LinR w' a L := fun i hi => by
  obtain ⟨g, e, h1, h2⟩ := h i hi
  refine ⟨g, e, ?_, ?_⟩
  · rw [hb.cell (World.block_lt_of_cell? w _ h1)]; exact h1
  · rw [hb.cell (World.block_lt_of_cell? w _ h2)]; exact h2
theorem lv_at (l : List (Nat × List UInt8)) (i : Nat) (hi : i < l.length) (j : Nat) (hj : j < 2) : (lv l)[i * 2 + j]? = (lV l[i])[j]? := by
  induction l generalizing i with
  | nil => simp at hi
  | cons x l ih =>
    cases i with
    | zero =>
      show (lV x ++ lv l)[0 * 2 + j]? = _
      rw [List.getElem?_append_left (by simp [lV]; omega)]
      simp
    | succ i =>
      show (lV x ++ lv l)[(i + 1) * 2 + j]? = _
      have e : (i + 1) * 2 + j = (lV x).length + (i * 2 + j) := by simp [lV]; omega
      rw [e, List.getElem?_append_right (by omega), Nat.add_sub_cancel_left, ih i (by simpa using hi)]
      rfl
theorem linR_of {w : World} {B : Nat} {v : Value} {L : List (Nat × List UInt8)} (h : OwnL w B v L) : ∃ a c, v = .slice a L.length c ∧ LinR w a L := by
  rcases owns_form h with ⟨rfl, h0⟩ | ⟨g, cap, rfl, _⟩
  · exact ⟨none, 0, by rw [h0], fun i hi => by omega⟩
  · refine ⟨_, cap, rfl, fun i hi => ⟨g, rfl, ?_⟩⟩
    have key : ∀ j, j < 2 → w.cell? ⟨g, i * 2 + j, none⟩ = (lV L[i])[j]? := fun j hj => by
      have hc := World.ownsRow.cellAt (show w.ownsRow B 28 2 _ L.length (lv L) from h) (i * 2 + j) (by omega)
      rw [hc]
      exact lv_at L i hi j hj
    exact ⟨key 0 (by omega), key 1 (by omega)⟩
theorem unf_out {PL : List (Nat × List UInt8)} {B : Nat} {W : World} {v : Value} {e l : Nat} (h : UnfP PL B W v e l) : (∃ a c, v = .slice a (outL PL).length c ∧ LinR W a (outL PL)) ∧ e = (outE PL).1 ∧ l = (outE PL).2 := by
  unfold UnfP at h
  unfold outL outE
  cases hf : ferr [] PL with
  | some p =>
    rw [hf] at h
    obtain ⟨rfl, rfl, rfl⟩ := h
    exact ⟨⟨none, 0, rfl, fun i hi => by simp at hi⟩, rfl, rfl⟩
  | none =>
    rw [hf] at h
    obtain ⟨h1, rfl, rfl⟩ := h
    exact ⟨linR_of h1, rfl, rfl⟩
theorem unfP_below {PL : List (Nat × List UInt8)} {B : Nat} {W W' : World} {v : Value} {e l : Nat} (h : UnfP PL B W v e l) (hb : Below W.heap.size W W') : UnfP PL B W' v e l := by
  unfold UnfP at h ⊢
  cases hf : ferr [] PL with
  | some p => rw [hf] at h; exact h
  | none =>
    rw [hf] at h
    exact ⟨owns_same h.1 (fun g hg => hb.block g (World.ownsRow.lt (show W.ownsRow _ _ _ _ _ _ from h.1) g hg).2), h.2⟩
theorem unf_slice {PL : List (Nat × List UInt8)} {B : Nat} {W : World} {v : Value} {e l : Nat} (h : UnfP PL B W v e l) : ∃ a n c, v = .slice a n c := by
  obtain ⟨⟨a, c, h1, _⟩, _⟩ := unf_out h
  exact ⟨_, _, _, h1⟩

set_option maxRecDepth 100000 in
set_option maxHeartbeats 1000000 in
theorem lines_any (s : ByteArray) (hs : s.size ≤ 1048576) (w : World) : Calls Try.prog 5 #[.string s] w fun e w' => ∃ v er ln, e = .returned (.tuple #[v, .int .i64 ((er : Nat) : Int), .int .i64 ((ln : Nat) : Int)]) ∧ UnfIs s.data.toList w.heap.size w' v er ln ∧ Below w.heap.size w w' := by
  have hU : Hid (Calls Try.prog 10 #[.string s] w fun e w' => ∃ v er ln, e = .returned (.tuple #[v, .agg #[.int .i64 ((er : Nat) : Int), .int .i64 ((ln : Nat) : Int)]]) ∧ UnfIs s.data.toList w.heap.size w' v er ln ∧ Below w.heap.size w w') := unfold_any s hs w
  go_enter Try.func5, Try.ntmps5
  go_upto_region 2 with (go_at_call 10; refine hU.out.mono ?_; rintro e w1 ⟨v, er, ln, rfl, hI, hb1⟩; obtain ⟨a, n, c, rfl⟩ := unf_slice hI)
  obtain ⟨W2, hW2⟩ : ∃ W2, w1.alloc (.cells #[.int .i64 (er : Int), .int .i64 (ln : Int)] 34) = W2 := ⟨_, rfl⟩
  rw [hW2]
  have g2 : W2.heap[w1.heap.size]? = some (.cells #[.int .i64 (er : Int), .int .i64 (ln : Int)] 34 (0, 0)) := by rw [← hW2]; exact heap_alloc_last w1 _
  have c0 : W2.cell? ⟨w1.heap.size, 0, none⟩ = some (.int .i64 (er : Int)) := by rw [cell_of_row W2 _ 0 _ _ _ g2]; rfl
  have c1 : W2.cell? ⟨w1.heap.size, 1, none⟩ = some (.int .i64 (ln : Int)) := by rw [cell_of_row W2 _ 1 _ _ _ g2]; rfl
  have hb2 : Below w1.heap.size w1 W2 := by rw [← hW2]; exact (Below.refl _ _).alloc (Nat.le_refl _) _
  clear hW2 g2 hU
  go_region_held3 (fun w' => w'.cell? ⟨w1.heap.size, 0, none⟩ = some (.int .i64 (er : Int)) ∧ w'.cell? ⟨w1.heap.size, 1, none⟩ = some (.int .i64 (ln : Int)))
    (go_keep)
    (fail)
  go_wp2_with fail
  go_ret3
  have hb3 : Below w1.heap.size w1 W2.drew := hb2.drew
  exact ⟨_, er, ln, rfl, unfP_below hI hb3, hb1.trans (hb3.mono hb1.size)⟩

theorem num_any (x : Int) (w : World) : Calls Try.prog 7 #[.int .i64 x] w fun e w' => e = .returned (.int .i64 x) ∧ w' = w := by
  go_enter Try.func7, Try.ntmps7
  go_wp2
  go_ret
  exact ⟨rfl, rfl⟩
theorem ne_line (c : Int) (s : ByteArray) (W : World) :
    (binOp .neq 28 (.agg #[.int .i64 c, .string s]) (.agg #[.int .i64 c, .string s])).run Try.prog W = .ok (.bool false) W := by
  have hS : Try.prog.underlying 28 = some (.struct (Try.prog.fieldsOf 28)) := by kernel_rfl
  have hp : Try.prog.stoodInHeld 28 = false := by kernel_rfl
  rw [run_neq_struct, run_equalIn_struct _ _ _ _ _ hS hp]
  simp only [Program.fieldsOf, Try.underlying28]
  simp [Op.eqFields, go_sem]
theorem outL_len (s : ByteArray) (hs : s.size ≤ 1048576) : (outL (phys s.data.toList)).length ≤ 1048577 := by
  have h1 := (joinS_sizes (phys s.data.toList)).1
  have h2 := phys_len s.data.toList
  rw [size_l] at h2
  unfold outL
  split
  · simp
  · omega

set_option maxRecDepth 100000 in
set_option maxHeartbeats 2000000 in
theorem ldifLines_walk (s : ByteArray) (hs : s.size ≤ 1048576) (w : World) : Calls Try.prog 3 #[.string s] w fun e w' => e = .returned (.bool true) ∧ Below w.heap.size w w' := by
  have hU : ∀ W, Hid (Calls Try.prog 5 #[.string s] W fun e w' => ∃ v er ln, e = .returned (.tuple #[v, .int .i64 ((er : Nat) : Int), .int .i64 ((ln : Nat) : Int)]) ∧ UnfIs s.data.toList W.heap.size w' v er ln ∧ Below W.heap.size W w') := fun W => lines_any s hs W
  have hV : ∀ W, Hid (Calls Try.prog 6 #[.string s] W fun e w' => ∃ v er ln, e = .returned (.tuple #[v, .int .i64 ((er : Nat) : Int), .int .i64 ((ln : Nat) : Int)]) ∧ UnfIs s.data.toList W.heap.size w' v er ln ∧ Below W.heap.size W w') := fun W => rlines_any s hs W
  have hlen := outL_len s hs
  unfold UnfIs at hU hV
  obtain ⟨PL, hPL⟩ : ∃ PL, phys s.data.toList = PL := ⟨_, rfl⟩
  rw [hPL] at hU hV hlen
  clear hPL hs
  obtain ⟨L, hL⟩ : ∃ L, outL PL = L := ⟨_, rfl⟩
  rw [hL] at hlen
  obtain ⟨n, hn⟩ : ∃ n, L.length = n := ⟨_, rfl⟩
  rw [hn] at hlen
  have hU' : ∀ W, Hid (Calls Try.prog 5 #[.string s] W fun e w' => ∃ a c, e = .returned (.tuple #[.slice a n c, .int .i64 ((outE PL).1 : Int), .int .i64 ((outE PL).2 : Int)]) ∧ LinR w' a L ∧ Below W.heap.size W w') := fun W => by
    refine (hU W).out.mono ?_
    rintro e w' ⟨v, er, ln, rfl, h1, h2⟩
    obtain ⟨⟨a, c, rfl, h3⟩, rfl, rfl⟩ := unf_out h1
    rw [hL] at h3 ⊢
    rw [hn]
    exact ⟨a, c, rfl, h3, h2⟩
  have hV' : ∀ W, Hid (Calls Try.prog 6 #[.string s] W fun e w' => ∃ a c, e = .returned (.tuple #[.slice a n c, .int .i64 ((outE PL).1 : Int), .int .i64 ((outE PL).2 : Int)]) ∧ LinR w' a L ∧ Below W.heap.size W w') := fun W => by
    refine (hV W).out.mono ?_
    rintro e w' ⟨v, er, ln, rfl, h1, h2⟩
    obtain ⟨⟨a, c, rfl, h3⟩, rfl, rfl⟩ := unf_out h1
    rw [hL] at h3 ⊢
    rw [hn]
    exact ⟨a, c, rfl, h3, h2⟩
  clear hU hV hL
  generalize ((outE PL).1 : Int) = x at *
  generalize ((outE PL).2 : Int) = y at *
  have hlen' : Hid (n ≤ 1048577) := hlen
  have hn' : Hid (L.length = n) := hn
  clear hlen hn
  go_enter Try.func3, Try.ntmps3
  go_wp2_with (first | (go_at_call 5; refine (hU' _).out.mono ?_; rintro e w1 ⟨a1, c1, rfl, hR1, hb1⟩) | (go_at_call 6; refine (hV' _).out.mono ?_; rintro e w2 ⟨a2, c2, rfl, hR2, hb2⟩) | (go_at_call 7; refine (num_any _ _).mono ?_; rintro e w3 ⟨rfl, rfl⟩))
  have hRa : Hid (LinR w3 a1 L) := hR1.below hb2
  have hRb : Hid (LinR w3 a2 L) := hR2
  have HB0 : Hid (Below w.heap.size w w3) := hb1.trans (hb2.mono hb1.size)
  clear hR1 hR2 hb1 hb2 hU' hV'
  obtain ⟨W3, rfl⟩ : ∃ W3, W3 = w3 := ⟨_, rfl⟩
  go_loopw [9] (fun iv wr => ∃ (k : Nat), k ≤ n ∧ iv = .int .i64 (k : Int) ∧ Hid (wr.heap = W3.heap) ∧ Hid (Below W3.heap.size W3 wr)) (fun iv _ => n - (intOf iv).toNat)
  case atStart => exact ⟨0, Nat.zero_le _, rfl, rfl, Below.refl _ _⟩
  case round =>
    obtain ⟨k, hk, rfl, hh, HB⟩ := hrel
    by_cases hlt : k < n
    · have hkL : k < L.length := by rw [hn'.out]; exact hlt
      obtain ⟨g, rfl, p0, p1⟩ := hRa.out k hkL
      obtain ⟨g', rfl, q0, q1⟩ := hRb.out k hkL
      have hE : ∀ a, wr.cell? a = W3.cell? a := fun a => World.cell?_of_block (w := W3) (by rw [hh.out])
      rw [← hE] at p0 p1 q0 q1
      have hnq := fun W => ne_line (L[k].1 : Int) (S L[k].2) W
      generalize (L[k].1 : Int) = z1 at *
      generalize S L[k].2 = z2 at *
      have k0 : (0 : Int) ≤ (k : Int) := Int.natCast_nonneg _
      have k1 : (k : Int) < (n : Int) := Int.ofNat_lt.2 hlt
      have k2 : (k : Int) < 1048578 := by have := hlen'.out; omega
      have hlt' : Hid (k < n) := hlt
      clear hE hkL hk hlt
      go_wp2_with fail
      go_region
      all_goals
        go_wp2_with fail
        go_roundw
        case rel => exact ⟨k + 1, hlt'.out, by simp, by exact hh, HB.out.drew⟩
        case measure => have := hlt'.out; simp [intOf]; omega
    · have hke : n = k := by omega
      subst hke
      clear hk hlt
      go_wp2_with fail
      go_ret
      exact ⟨rfl, HB0.out.trans (HB.out.mono HB0.out.size)⟩
end Go.Proofs.Ytcngdlaaadijpaa
