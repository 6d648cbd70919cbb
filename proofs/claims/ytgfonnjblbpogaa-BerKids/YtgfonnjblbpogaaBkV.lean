import Derived.Test.YtgfonnjblbpogaaBkL
import Derived.Test.YtgfonnjblbpogaaBJoin5
import Derived.Test.YtgfonnjblbpogaaBHead4
namespace Go.Proofs.Ytgfonnjblbpogaa
open Go.RowKit
open BerMath (Hd HR num hAt wAt)
set_option linter.unusedVariables false

theorem row_isN0 {w : World} {a : Option Addr} {n : Nat} {D C T : Nat → Int} {M : Nat → Bool} {B : Nat → ByteArray} (h : NdRow w a (nodesL n D C T M B)) : IsNodes w a n D C T M B := fun i hi => by
  obtain ⟨b, off, e, h0, h1, h2, h3, h4⟩ := h i (by rw [nodesL_len]; exact hi)
  have hx : (nodesL n D C T M B)[i]'(by rw [nodesL_len]; exact hi) = ⟨D i, C i, M i, T i, B i⟩ := by simp [nodesL]
  rw [hx] at h0 h1 h2 h3 h4
  exact ⟨b, off, e, h0, h1, h2, h3, h4⟩
/-- What Write answers of a list that is a tree. -/
theorem wrE_good {e : Ending} {n : Nat} {D C T : Nat → Int} {M : Nat → Bool} {B : Nat → ByteArray} (h : WrE e n D C T M B) (h0 : 0 < n) (hG : ∀ i, i < n → Good D C T M B i) : WrR e n D C T M B := by
  rcases h with ⟨_, h⟩ | ⟨c, q, hc0, hck, _⟩
  · exact h
  · exfalso
    have hfit := (fit_iff n D C T M B).2 hG
    rcases hck with ⟨_, _, h3, _⟩ | ⟨h1, _⟩ | ⟨i, hi, _, _, ⟨h4, _⟩ | ⟨_, h5, _⟩⟩
    · exact hc0 h3
    · omega
    · exact h4 (hfit i hi).1
    · exact h5 (hfit i hi).2
/-- What is known of a part. -/
theorem part_facts {n : Nat} {D C T : Nat → Int} {M : Nat → Bool} {B : Nat → ByteArray} (hG : ∀ i, i < n → Good D C T M B i) : ∀ (i : Nat), 1 ≤ itN D n i 1 → itN D n i 1 < n → D (itN D n i 1) = 2 := by
  intro i
  cases i with
  | zero =>
    intro _ h
    have h' : 1 < n := h
    show D 1 = 2
    obtain ⟨g1, g2, _⟩ := (hG 1 h').2.2.2.2.2.2.2.2 0 rfl
    have := (hG 0 (by omega)).2.2.2.2.2.2.2.1 rfl
    omega
  | succ i =>
    intro h1 h
    have hge : ∀ j c, c ≤ itN D n j c ∨ True := fun _ _ => Or.inr trivial
    rw [itN_succ] at h ⊢
    have hlt : itN D n i 1 < n := by
      rcases Nat.lt_or_ge (itN D n i 1) n with q | q
      · exact q
      · exfalso
        have := (idx_ge D (D (itN D n i 1) + 1) (n - (itN D n i 1 + 1)) (itN D n i 1 + 1)).1
        unfold nxt at h
        omega
    obtain ⟨f1, f2, f3, f4, _⟩ := nxt_facts hG (itN D n i 1) hlt
    have hpos : ∀ j, 1 ≤ itN D n j 1 := by
      intro j
      induction j with
      | zero => exact Nat.le_refl _
      | succ j ih =>
        rw [itN_succ]
        have := (idx_ge D (D (itN D n j 1) + 1) (n - (itN D n j 1 + 1)) (itN D n j 1 + 1)).1
        unfold nxt
        omega
    have ih := part_facts hG i (hpos i) hlt
    have h4 := f4 h
    obtain ⟨j, hj⟩ : ∃ j, nxt D n (itN D n i 1) = j + 1 := ⟨nxt D n (itN D n i 1) - 1, by omega⟩
    have g := ((hG (nxt D n (itN D n i 1)) h).2.2.2.2.2.2.2.2 j hj).1
    omega
theorem part_write {n : Nat} {D C T : Nat → Int} {M : Nat → Bool} {B : Nat → ByteArray} {H : Nat → List UInt8} {L : Nat → Nat} (hG : ∀ i, i < n → Good D C T M B i) (hF : SpF n D C T M B H L) {c : Nat} (hc : c < n) (h2 : D c = 2) {e : Ending}
    (h : WrE e (nxt D n c - c) (fun j => D (c + j) - 1) (fun j => C (c + j)) (fun j => T (c + j)) (fun j => M (c + j)) (fun j => B (c + j))) :
    e = .returned (.tuple #[.string (S (outB H B c (nxt D n c - c))), .int .i64 0, .int .i64 0]) := by
  obtain ⟨f1, f2, f3, f4, _⟩ := nxt_facts hG c hc
  have hin : ∀ j, 0 < j → j < nxt D n c - c → 3 ≤ D (c + j) := fun j h1 hj => by have := f3 (c + j) (by omega) (by omega); omega
  have hG' := good_part (c := c) (m := nxt D n c - c) hG (by omega) h2 hin
  obtain ⟨H', σ', rfl, hI', hS'⟩ := wrE_good h (by omega) hG'
  obtain ⟨L', hF'⟩ := spF_of hI' hS'
  have hP := spF_part (c := c) (m := nxt D n c - c) hF (by omega) (fun j hj q => by
    rw [show c + (nxt D n c - c) = nxt D n c from by omega] at q ⊢
    have h4 := f4 q
    rcases Nat.eq_zero_or_pos j with z | z
    · subst z; exact h4
    · have := hin j z hj; omega)
  have heq : outB H' (fun j => B (c + j)) 0 (nxt D n c - c) = outB H B c (nxt D n c - c) := outB_eq (nxt D n c - c) 0 c (fun j hj => ⟨by
    rw [Nat.zero_add]
    exact spF_uniq hF' hP (nxt D n c - c) j (by omega) hj, by rw [Nat.zero_add]⟩)
  rw [heq]
theorem ev_at (l : List Elm) (i : Nat) (hi : i < l.length) (j : Nat) (hj : j < 4) : (ev l)[i * 4 + j]? = (eV l[i])[j]? := by
  induction l generalizing i with
  | nil => simp at hi
  | cons x l ih =>
    cases i with
    | zero =>
      show (eV x ++ ev l)[0 * 4 + j]? = _
      rw [List.getElem?_append_left (by simp [eV]; omega)]
      simp
    | succ i =>
      show (eV x ++ ev l)[(i + 1) * 4 + j]? = _
      have e : (i + 1) * 4 + j = (eV x).length + (i * 4 + j) := by simp [eV]; omega
      rw [e, List.getElem?_append_right (by omega), Nat.add_sub_cancel_left, ih i (by simpa using hi)]
      rfl
def ERow (w : World) (a : Option Addr) (l : List Elm) : Prop := ∀ i (hi : i < l.length), ∃ b, a = some ⟨b, 0, none⟩ ∧ w.cell? ⟨b, i * 4, none⟩ = some (.int .i64 (l[i].c : Int)) ∧ w.cell? ⟨b, i * 4 + 1, none⟩ = some (.bool l[i].m) ∧ w.cell? ⟨b, i * 4 + 2, none⟩ = some (.int .i64 (l[i].t : Int)) ∧ w.cell? ⟨b, i * 4 + 3, none⟩ = some (.string l[i].s)
theorem ownE_any {w : World} {B : Nat} {v : Value} {l : List Elm} (h : OwnE w B v l) : ∃ a c, v = .slice a l.length c ∧ ERow w a l := by
  have h0 := h
  rcases h.2 with ⟨rfl, hn⟩ | ⟨g, cap, cur, rfl, _⟩
  · have hl : l = [] := List.eq_nil_of_length_eq_zero hn
    subst hl
    exact ⟨none, 0, rfl, fun i hi => by simp at hi⟩
  · have key : ∀ i (hi : i < l.length) j, j < 4 → w.cell? ⟨g, i * 4 + j, none⟩ = (eV l[i])[j]? := fun i hi j hj => by
      have hc := World.ownsRow.cellAt (show w.ownsRow B 56 4 _ l.length (ev l) from h0) (i * 4 + j) (by omega)
      rw [hc, ev_at l i hi j hj]
    exact ⟨_, _, rfl, fun i hi => ⟨g, rfl, key i hi 0 (by omega), key i hi 1 (by omega), key i hi 2 (by omega), key i hi 3 (by omega)⟩⟩
theorem ERow.below {w w' : World} {a : Option Addr} {l : List Elm} (h : ERow w a l) (hb : Below w.heap.size w w') : ERow w' a l := fun i hi => by
  obtain ⟨b, e, h0, h1, h2, h3⟩ := h i hi
  have hlt : b < w.heap.size := World.block_lt_of_cell? w _ h0
  exact ⟨b, e, (hb.cell hlt).trans h0, (hb.cell hlt).trans h1, (hb.cell hlt).trans h2, (hb.cell hlt).trans h3⟩
theorem len_ge {H : Nat → List UInt8} {B : Nat → ByteArray} : ∀ (m s : Nat), (∀ j, s ≤ j → j < s + m → 0 < (H j).length) → m ≤ (outB H B s m).length
  | 0, _, _ => Nat.zero_le _
  | m + 1, s, h => by
    have h0 := h s (Nat.le_refl _) (by omega)
    have := len_ge (H := H) (B := B) m (s + 1) (fun j a b => h j (by omega) (by omega))
    rw [outB_cons, List.length_append, List.length_append]
    omega
/-- What Join answers of a part. -/
theorem part_join {n : Nat} {D C T : Nat → Int} {M : Nat → Bool} {B : Nat → ByteArray} {H : Nat → List UInt8} {L : Nat → Nat} (hG : ∀ i, i < n → Good D C T M B i) (hF : SpF n D C T M B H L) {c : Nat} (hc : c < n) (hL : L c ≤ 67108864) (w : World) :
    Calls Try.prog 19 #[elV ((C c).toNat : Int) (M c) ((T c).toNat : Int) (S (bodyK D n B H c))] w fun r w' => r = .returned (.tuple #[.string (S (outB H B c (nxt D n c - c))), .int .i64 0]) ∧ Below w.heap.size w w' := by
  obtain ⟨f1, f2, _⟩ := nxt_facts hG c hc
  obtain ⟨g1, g2, g3, g4, _⟩ := hG c hc
  obtain ⟨a1, _⟩ := hF c hc
  have hl := bodyK_len hG hF c hc
  have hfine : fineB ((C c).toNat : Int) ((T c).toNat : Int) = true := by
    unfold fineB
    simp only [Bool.and_eq_true, decide_eq_true_eq]
    omega
  have := join_good (C c).toNat (T c).toNat (M c) (S (bodyK D n B H c)) w (by omega) (by omega) hfine (by rw [S_size]; omega)
  rw [S_size, S_l, hl] at this
  have e : fb (C c).toNat (M c) (T c).toNat :: lenB (L c) ++ bodyK D n B H c = outB H B c (nxt D n c - c) := by
    rw [chunk f1, a1, ← hdr_short]
  rw [e] at this
  exact this
end Go.Proofs.Ytgfonnjblbpogaa
