import Derived.Test.YtoomoicjoockjaaGreatDoorGM
import Derived.Test.YtoomoicjoockjaaGreatDoorGLu
import Derived.Laws.StructEq
namespace Go.Proofs.YtoomoicjoockjaaGreatDoor
namespace Rd
open LdMath
set_option linter.unusedVariables false

/-- The physical lines, byte by byte: what has been read of the line at hand. -/
def phR : Nat → List UInt8 → List UInt8 → List (Nat × List UInt8)
  | n, acc, [] => if acc = [] then [] else [(n, acc)]
  | n, acc, c :: l => if c = 10 then (n, trimCR acc) :: phR (n + 1) [] l else phR n (acc ++ [c]) l
theorem phR_from (b : List UInt8) : ∀ (d i : Nat), i + d = b.length → phys b = pl b i ++ phR ((pl b i).length + 1) ((b.take i).drop (lo b i)) (b.drop i)
  | 0, i, h => by
    have hi : i = b.length := by omega
    subst hi
    unfold phys rst
    rw [List.drop_length, List.take_length, phR]
    by_cases hl : lo b b.length < b.length
    · rw [if_pos hl, if_neg (by
        intro e
        have := congrArg List.length e
        rw [List.length_drop, List.length_nil] at this
        omega)]
    · rw [if_neg hl, if_pos (by rw [List.drop_of_length_le (by omega)])]
  | d + 1, i, h => by
    have hi : i < b.length := by omega
    have ih := phR_from b d (i + 1) (by omega)
    have hb : b[i]? = some b[i] := List.getElem?_eq_getElem hi
    rw [ih, List.drop_eq_getElem_cons hi, phR]
    by_cases hc : b[i] = 10
    · rw [if_pos hc]
      have h10 : b[i]? = some 10 := by rw [hb, hc]
      rw [pl_lf b i h10, lo_lf b i h10, List.append_assoc]
      have e0 : (b.take (i + 1)).drop (i + 1) = [] := List.drop_of_length_le (by rw [List.length_take]; omega)
      rw [e0]
      simp
    · rw [if_neg hc]
      have h10 : ¬ b[i]? = some 10 := by rw [hb]; intro e; injection e with e; exact hc e
      rw [pl_no b i h10, lo_no b i h10]
      have e1 : (b.take (i + 1)).drop (lo b i) = (b.take i).drop (lo b i) ++ [b[i]] := by
        rw [List.take_succ_eq_append_getElem hi, List.drop_append_of_le_length (by rw [List.length_take]; have := lo_le b i; omega)]
      rw [e1]
theorem phys_eq (b : List UInt8) : phys b = phR 1 [] b := by
  have := phR_from b b.length 0 (by omega)
  rw [this]
  rfl
/-- With a return ahead of every line feed. -/
def crlf : List UInt8 → List UInt8
  | [] => []
  | c :: l => if c = 10 then 13 :: 10 :: crlf l else c :: crlf l
theorem crlf_app (a b : List UInt8) : crlf (a ++ b) = crlf a ++ crlf b := by
  induction a with
  | nil => rfl
  | cons c a ih =>
    rw [List.cons_append, crlf, crlf]
    split
    · rw [ih]; rfl
    · rw [ih]; rfl
theorem crlf_len (a : List UInt8) : (crlf a).length ≤ 2 * a.length := by
  induction a with
  | nil => simp [crlf]
  | cons c a ih =>
    rw [crlf]
    split <;> simp only [List.length_cons] <;> omega
theorem trim_no (l : List UInt8) (h : 13 ∉ l) : trimCR l = l := by
  unfold trimCR
  rw [if_neg (fun e => h (List.mem_of_getLast? e))]
theorem trim_yes (l : List UInt8) : trimCR (l ++ [13]) = l := by
  unfold trimCR
  simp
theorem phR_crlf : ∀ (l : List UInt8) (n : Nat) (acc : List UInt8), 13 ∉ acc → 13 ∉ l → phR n acc (crlf l) = phR n acc l
  | [], n, acc, _, _ => rfl
  | c :: l, n, acc, ha, hl => by
    have hl' : 13 ∉ l := fun h => hl (List.mem_cons_of_mem _ h)
    rw [crlf]
    by_cases hc : c = 10
    · subst hc
      rw [if_pos rfl, phR, if_neg (by decide), phR, if_pos rfl, phR, if_pos rfl, trim_yes, trim_no acc ha, phR_crlf l (n + 1) [] (by simp) hl']
    · rw [if_neg hc, phR, if_neg hc, phR, if_neg hc]
      refine phR_crlf l n _ ?_ hl'
      intro h
      rcases List.mem_append.1 h with h | h
      · exact ha h
      · exact hl (by simp at h; rw [h]; exact List.mem_cons_self)
theorem phys_crlf (b : List UInt8) (h : 13 ∉ b) : phys (crlf b) = phys b := by rw [phys_eq, phys_eq, phR_crlf b 1 [] (by simp) h]
theorem rdT_phys {a b : List UInt8} (h : phys a = phys b) : rdT a = rdT b := by unfold rdT; rw [h]
theorem ldR_phys {a b : List UInt8} (h : phys a = phys b) : ldR a = ldR b := by unfold ldR; rw [rdT_phys h]
end Rd
end Go.Proofs.YtoomoicjoockjaaGreatDoor

namespace Go.Proofs.YtoomoicjoockjaaGreatDoor
open Go.RowKit
open LdMath

/-- What Lines answers: the lines, the error, the place. -/
def outL (PL : List (Nat × List UInt8)) : List (Nat × List UInt8) := match ferr [] PL with | some _ => [] | none => joinS PL
def outE (PL : List (Nat × List UInt8)) : Nat × Nat := match ferr [] PL with | some p => p | none => (0, 0)
/-- A row of lines. -/
def LinR (w : World) (a : Option Addr) (L : List (Nat × List UInt8)) : Prop := ∀ i (h : i < L.length), ∃ g, a = some ⟨g, 0, none⟩ ∧ w.cell? ⟨g, i * 2, none⟩ = some (.int .i64 (L[i].1 : Int)) ∧ w.cell? ⟨g, i * 2 + 1, none⟩ = some (.string (S L[i].2))
theorem LinR.below {w w' : World} {a : Option Addr} {L : List (Nat × List UInt8)} (h : LinR w a L) (hb : Below w.heap.size w w') : LinR w' a L := fun i hi => by
  obtain ⟨g, e, h1, h2⟩ := h i hi
  refine ⟨g, e, ?_, ?_⟩
  · rw [hb.cell (World.block_lt_of_cell? w _ h1)]; exact h1
  · rw [hb.cell (World.block_lt_of_cell? w _ h2)]; exact h2
theorem lv_at (l : List (Nat × List UInt8)) (i : Nat) (hi : i < l.length) (j : Nat) (hj : j < 2) : (lv l)[i * 2 + j]? = (lV l[i])[j]? := by
  induction l generalizing i with
  | nil => simp at hi
  | cons x l ih =>
    cases i with
    | zero =>
      show (lV x ++ lv l)[0 * 2 + j]? = _
      rw [List.getElem?_append_left (by simp [lV]; omega)]
      simp
    | succ i =>
      show (lV x ++ lv l)[(i + 1) * 2 + j]? = _
      have e : (i + 1) * 2 + j = (lV x).length + (i * 2 + j) := by simp [lV]; omega
      rw [e, List.getElem?_append_right (by omega), Nat.add_sub_cancel_left, ih i (by simpa using hi)]
      rfl
theorem linR_of {w : World} {B : Nat} {v : Value} {L : List (Nat × List UInt8)} (h : OwnL w B v L) : ∃ a c, v = .slice a L.length c ∧ LinR w a L := by
  rcases owns_form h with ⟨rfl, h0⟩ | ⟨g, cap, rfl, _⟩
  · exact ⟨none, 0, by rw [h0], fun i hi => by omega⟩
  · refine ⟨_, cap, rfl, fun i hi => ⟨g, rfl, ?_⟩⟩
    have key : ∀ j, j < 2 → w.cell? ⟨g, i * 2 + j, none⟩ = (lV L[i])[j]? := fun j hj => by
      have hc := World.ownsRow.cellAt (show w.ownsRow B 67 2 _ L.length (lv L) from h) (i * 2 + j) (by omega)
      rw [hc]
      exact lv_at L i hi j hj
    exact ⟨key 0 (by omega), key 1 (by omega)⟩
theorem unf_out {PL : List (Nat × List UInt8)} {B : Nat} {W : World} {v : Value} {e l : Nat} (h : UnfP PL B W v e l) : (∃ a c, v = .slice a (outL PL).length c ∧ LinR W a (outL PL)) ∧ e = (outE PL).1 ∧ l = (outE PL).2 := by
  unfold UnfP at h
  unfold outL outE
  cases hf : ferr [] PL with
  | some p =>
    rw [hf] at h
    obtain ⟨rfl, rfl, rfl⟩ := h
    exact ⟨⟨none, 0, rfl, fun i hi => by simp at hi⟩, rfl, rfl⟩
  | none =>
    rw [hf] at h
    obtain ⟨h1, rfl, rfl⟩ := h
    exact ⟨linR_of h1, rfl, rfl⟩
theorem unfP_below {PL : List (Nat × List UInt8)} {B : Nat} {W W' : World} {v : Value} {e l : Nat} (h : UnfP PL B W v e l) (hb : Below W.heap.size W W') : UnfP PL B W' v e l := by
  unfold UnfP at h ⊢
  cases hf : ferr [] PL with
  | some p => rw [hf] at h; exact h
  | none =>
    rw [hf] at h
    exact ⟨owns_same h.1 (fun g hg => hb.block g (World.ownsRow.lt (show W.ownsRow _ _ _ _ _ _ from h.1) g hg).2), h.2⟩
theorem unf_slice {PL : List (Nat × List UInt8)} {B : Nat} {W : World} {v : Value} {e l : Nat} (h : UnfP PL B W v e l) : ∃ a n c, v = .slice a n c := by
  obtain ⟨⟨a, c, h1, _⟩, _⟩ := unf_out h
  exact ⟨_, _, _, h1⟩

theorem num_any (x : Int) (w : World) : Calls Tryz.prog 6 #[.int .i64 x] w fun e w' => e = .returned (.int .i64 x) ∧ w' = w := by
  go_enter Tryz.func6, Tryz.ntmps6
  go_wp2
  go_ret
  exact ⟨rfl, rfl⟩
theorem ne_line (c : Int) (s : ByteArray) (W : World) :
    (binOp .neq 67 (.agg #[.int .i64 c, .string s]) (.agg #[.int .i64 c, .string s])).run Tryz.prog W = .ok (.bool false) W := by
  have hS : Tryz.prog.underlying 67 = some (.struct (Tryz.prog.fieldsOf 67)) := by kernel_rfl
  have hp : Tryz.prog.stoodInHeld 67 = false := by kernel_rfl
  rw [run_neq_struct, run_equalIn_struct _ _ _ _ _ hS hp]
  simp only [Program.fieldsOf, Tryz.underlying67]
  simp [Op.eqFields, go_sem]
theorem outL_len (s : ByteArray) (hs : s.size ≤ 4194304) : (outL (phys s.data.toList)).length ≤ 4194305 := by
  have h1 := (joinS_sizes (phys s.data.toList)).1
  have h2 := phys_len s.data.toList
  rw [size_l] at h2
  unfold outL
  split
  · simp
  · omega

end Go.Proofs.YtoomoicjoockjaaGreatDoor
