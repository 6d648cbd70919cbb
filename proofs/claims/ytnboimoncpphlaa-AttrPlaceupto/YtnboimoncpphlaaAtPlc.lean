import Derived.Test.YtnboimoncpphlaaAtPlcM
import Derived.Test.YtnboimoncpphlaaAtParse
namespace Go.Proofs.Ytnboimoncpphlaa
open Go.RowKit
open TextMath (fold lo)
set_option linter.unusedVariables false

theorem fold_appP (a b : List UInt8) : fold (a ++ b) = fold a ++ fold b := by simp [fold]
theorem numP_any (n : Int) (w : World) : Calls Try.prog 10 #[.int .i64 n] w fun e w' => e = .returned (.int .i64 n) ∧ w' = w := by
  go_enter Try.func10, Try.ntmps10
  go_wp2_with fail
  go_ret
  exact ⟨rfl, rfl⟩
/-- Whether a text is whole, and the place. -/
def okP (s : ByteArray) : Bool := dacc (drun 0 (fold s.data.toList))
def atP (s : ByteArray) : Nat := plc 0 (fold s.data.toList)
theorem parse_flat (s : ByteArray) (w : World) (hs : s.size ≤ 4194304) :
    Calls Try.prog 9 #[.string s] w fun e w' => (∃ X a n c, e = .returned (.tuple #[.agg #[.string X, .slice a n c], .int .i64 (if okP s = true then 0 else 40), .int .i64 (atP s : Int)])) ∧ Below w.heap.size w w' := by
  refine (parse_any s _ rfl w hs).mono ?_
  rintro e w' ⟨h, hb⟩
  refine ⟨?_, hb⟩
  obtain ⟨d1, d2⟩ := desc_dfa (S (fold s.data.toList))
  rw [S_l] at d1 d2
  unfold ParseIs at h
  rw [d1, d2] at h
  rcases h with ⟨ok, v, L, rfl, hO, _⟩ | ⟨ok, rfl⟩
  · obtain ⟨va, vc, rfl, _⟩ := ownS_trow hO
    exact ⟨_, _, _, _, by rw [if_pos (show okP s = true from ok)]; rfl⟩
  · exact ⟨_, _, _, _, by rw [if_neg (by rw [show okP s = false from ok]; decide)]; rfl⟩
def endP : Nat → ByteArray
  | 0 => ⟨#[]⟩
  | 1 => ⟨#[97]⟩
  | 2 => ⟨#[49]⟩
  | _ => ⟨#[46, 49]⟩
theorem endP_size (i : Nat) : (endP i).size ≤ 2 := by
  unfold endP
  split <;> decide
theorem endP_fold (i : Nat) : fold (endP i).data.toList = (endP i).data.toList := by
  unfold endP
  split <;> decide
theorem okP_app (t : ByteArray) (i : Nat) : okP (t ++ endP i) = dacc (drun 0 (fold t.data.toList ++ (endP i).data.toList)) := by
  unfold okP
  rw [ByteArray.data_append, Array.toList_append, fold_appP, endP_fold]
theorem goesL_ends (l : List UInt8) : goesL l = (dacc (drun 0 (l ++ (endP 0).data.toList)) || dacc (drun 0 (l ++ (endP 1).data.toList)) || dacc (drun 0 (l ++ (endP 2).data.toList)) || dacc (drun 0 (l ++ (endP 3).data.toList))) := by
  have : (endP 0).data.toList = [] := rfl
  rw [this, List.append_nil]
  rfl
set_option maxRecDepth 100000 in
set_option maxHeartbeats 2000000 in
theorem goes_any (t : ByteArray) (w : World) (ht : t.size ≤ 4194300) :
    Calls Try.prog 8 #[.string t] w fun e w' => e = .returned (.bool (goesL (fold t.data.toList))) ∧ Below w.heap.size w w' := by
  have hP : ∀ i W, Hid (Calls Try.prog 9 #[.string (t ++ endP i)] W fun e w' => (∃ X a n c, e = .returned (.tuple #[.agg #[.string X, .slice a n c], .int .i64 (if okP (t ++ endP i) = true then 0 else 40), .int .i64 (atP (t ++ endP i) : Int)])) ∧ Below W.heap.size W w') := fun i W => parse_flat _ W (by
    have := endP_size i
    rw [ByteArray.size_append]
    omega)
  have hg : Hid (goesL (fold t.data.toList) = (okP (t ++ endP 0) || okP (t ++ endP 1) || okP (t ++ endP 2) || okP (t ++ endP 3))) := by
    unfold Hid
    rw [goesL_ends, okP_app, okP_app, okP_app, okP_app]
  obtain ⟨g, hgg⟩ : ∃ g, goesL (fold t.data.toList) = g := ⟨_, rfl⟩
  rw [hgg]
  rw [hgg] at hg
  clear hgg
  obtain ⟨W0, hW0⟩ : ∃ W0, w.alloc (.cells #[.string ⟨#[]⟩, .string ⟨#[97]⟩, .string ⟨#[49]⟩, .string ⟨#[46, 49]⟩] 43) = W0 := ⟨_, rfl⟩
  have hB0 : Below w.heap.size w W0 := by rw [← hW0]; exact (Below.refl _ _).alloc (Nat.le_refl _) _
  have h0 : W0.heap[w.heap.size]? = some (.cells #[.string ⟨#[]⟩, .string ⟨#[97]⟩, .string ⟨#[49]⟩, .string ⟨#[46, 49]⟩] 43 (0, 0)) := by rw [← hW0]; exact heap_alloc_last w _
  have hI0 : Hid (Below w.heap.size w W0 ∧ W0.heap[w.heap.size]? = some (.cells #[.string ⟨#[]⟩, .string ⟨#[97]⟩, .string ⟨#[49]⟩, .string ⟨#[46, 49]⟩] 43 (0, 0))) := ⟨hB0, h0⟩
  clear hB0 h0
  go_enter Try.func8, Try.ntmps8
  go_wp2_with fail
  go_loopw [4] (fun iv wr => ∃ i : Nat, i ≤ 4 ∧ iv = .int .i64 (i : Int) ∧ Hid (∀ j, j < i → okP (t ++ endP j) = false) ∧ Hid (Below w.heap.size w wr ∧ wr.heap[w.heap.size]? = some (.cells #[.string ⟨#[]⟩, .string ⟨#[97]⟩, .string ⟨#[49]⟩, .string ⟨#[46, 49]⟩] 43 (0, 0)))) (fun iv _ => 4 - (intOf iv).toNat)
  case atStart => exact ⟨0, by omega, rfl, fun j hj => by omega, hI0⟩
  case round =>
    obtain ⟨i, hi, rfl, hno, hI⟩ := hrel
    clear hI0 hW0
    by_cases hlt : i < 4
    · have hc : wr.cell? ⟨w.heap.size, i, none⟩ = some (.string (endP i)) := by
        rw [(row_cell hI.out.2 (j := i) hlt).1]
        rcases i with _ | _ | _ | _ | i
        · rfl
        · rfl
        · rfl
        · rfl
        · omega
      have i0 : (0 : Int) ≤ (i : Int) := Int.natCast_nonneg _
      have i1 : (i : Int) < 4 := by omega
      have hPi := hP i wr
      have hmx : ¬ t.size + (endP i).size > 9223372036854775807 := by
        have := endP_size i
        omega
      obtain ⟨r, hr⟩ : ∃ r, okP (t ++ endP i) = r := ⟨_, rfl⟩
      rw [hr] at hPi
      have hr' : Hid (okP (t ++ endP i) = r) := hr
      clear hr hP
      go_wp2_with fail
      refine hPi.out.mono ?_
      rintro e w1 ⟨⟨X, a, n, c, rfl⟩, hb1⟩
      have hI1 : Hid (Below w.heap.size w w1 ∧ w1.heap[w.heap.size]? = some (.cells #[.string ⟨#[]⟩, .string ⟨#[97]⟩, .string ⟨#[49]⟩, .string ⟨#[46, 49]⟩] 43 (0, 0))) := ⟨hI.out.1.trans (hb1.mono hI.out.1.size), (hb1.block _ (Array.getElem?_eq_some_iff.1 hI.out.2).1).trans hI.out.2⟩
      have hB2 : Below w1.heap.size w1 (w1.alloc (.cells #[.string X, .slice a n c] 25)) := (Below.refl _ _).alloc (Nat.le_refl _) _
      have hI2 : Hid (Below w.heap.size w (w1.alloc (.cells #[.string X, .slice a n c] 25)) ∧ (w1.alloc (.cells #[.string X, .slice a n c] 25)).heap[w.heap.size]? = some (.cells #[.string ⟨#[]⟩, .string ⟨#[97]⟩, .string ⟨#[49]⟩, .string ⟨#[46, 49]⟩] 43 (0, 0))) := ⟨hI1.out.1.trans (hB2.mono hI1.out.1.size), (hB2.block _ (Array.getElem?_eq_some_iff.1 hI1.out.2).1).trans hI1.out.2⟩
      clear hPi hb1 hI1 hB2 hI hc
      cases r with
      | true =>
        rw [if_pos rfl]
        go_wp2_with fail
        refine (numP_any 0 _).mono ?_
        rintro e w2 ⟨rfl, hw2⟩
        subst hw2
        go_wp2_with fail
        go_ret
        have hgt : g = true := by
          rw [hg.out]
          have h := hr'.out
          rcases i with _ | _ | _ | _ | i
          · rw [h]; rfl
          · rw [h, Bool.or_true]; rfl
          · rw [h, Bool.or_true]; rfl
          · rw [h, Bool.or_true]
          · omega
        exact ⟨by rw [hgt]; rfl, hI2.out.1⟩
      | false =>
        rw [if_neg (by decide)]
        go_wp2_with fail
        refine (numP_any 40 _).mono ?_
        rintro e w2 ⟨rfl, hw2⟩
        subst hw2
        go_wp2_with fail
        go_roundw
        case rel => exact ⟨i + 1, by omega, by simp, fun j hj => by
                      rcases Nat.lt_or_ge j i with h | h
                      · exact hno.out j h
                      · have : j = i := by omega
                        subst this
                        exact hr'.out, hI2⟩
        case measure => simp [intOf]; omega
    · have i1 : ¬ (i : Int) < 4 := by omega
      have hgf : Hid (g = false) := by
        unfold Hid
        rw [hg.out, hno.out 0 (by omega), hno.out 1 (by omega), hno.out 2 (by omega), hno.out 3 (by omega)]
        rfl
      go_wp2_with fail
      go_ret
      exact ⟨by rw [hgf.out]; rfl, hI.out.1⟩
end Go.Proofs.Ytnboimoncpphlaa
