import Derived.Test.YthaonpmmfennhaaFX2
import Derived.Laws.IdiomCopy
import Derived.Laws.StructEq
import Derived.Deep.OwnRows
import Derived.Test.YthaonpmmfennhaaFX1
import Derived.BigQuiet
namespace Go.Proofs.Ythaonpmmfennhaa
open Go.RowKit
open FrMath (Hdr lb bd within Out ends cut Cut)

/-- One text appended, in a walk. -/
theorem push_text (w : World) {ops : Array Oper} {rest : List Oper} {o : Oper} {a : Act} {Q : Exit → Act → World → Prop} (hgd : o.guard = none) (s x : Operand)
    (ho : o.op = .call { callee := .builtin .append, args := #[s, x], argTypes := #[22, 22] }) (B : Nat) (v : Value) (l : List (List UInt8)) (m : List UInt8) (g : Nat)
    (hs : a.eval s = v) (hx : a.eval x = .slice (some ⟨g, 0, none⟩) 1 1) (hown : OwnS w B v l) (hg : w.heap[g]? = some (.cells #[.string (S m)] 9 (0, 0))) (hB : B ≤ w.heap.size) (hl : l.length ≤ 67108864)
    (h : ∀ g' cap w', OwnS w' B (.slice (some ⟨g', 0, none⟩) (l.length + 1) cap) (l ++ [m]) → w.grownBy w' v.ownBlock → (v.ownBlock = some g' ∨ g' = w.heap.size) → Below B w w' → wpList Try.prog ops Q rest (a.put o.dst (.slice (some ⟨g', 0, none⟩) (l.length + 1) cap)) w') :
    wpList Try.prog ops Q (o :: rest) a w := by
  obtain ⟨i0, hi, hz0, hz1, hz2⟩ := info_parts finfo_str
  refine wpList_append_lies w hgd s x 22 ho B 9 i0 _ 1 16 Try.underlying22 hi hz0 hz1 hz2 rfl (by decide) v l.length (sv l) hs hown ⟨g, 0, none⟩ 1 1 [.string (S m)] hx rfl (World.news_of_block hg) (by intro u hu; simp at hu; subst hu; rfl) (by decide) (by unfold maxLen; omega) (by omega) hB w.heap.size rfl ?_
  intro g' cap w' h1 h2 h3 _
  refine h g' cap w' ?_ h2 h3 ?_
  · unfold OwnS
    rw [sv_snoc, List.length_append]
    exact h1
  · refine (Below.refl _ _).grown h2 hB ?_
    intro k hk
    exact (hown.lt _ hk).1

theorem fw_sum (p n : Nat) (hp : p ≤ 4611686018427387904) (hn : n ≤ 1073741824) : wrap64 ((p : Int) + (n : Int)) = ((p + n : Nat) : Int) := by unfold wrap64; omega

set_option maxRecDepth 100000 in
set_option maxHeartbeats 400000 in
theorem give_any (fb : Nat) (lim : Int) (p : Nat) (v : Value) (r : List UInt8) (h : Hdr) (w : World) (hC : FCells w fb (frL lim p v h)) (hown : FOwn w (fb + 1) v r) (hp : p ≤ 1073741824) (hr : r.length ≤ 1073741824) :
    Calls Try.prog 20 #[.pointer (some ⟨fb, 0, none⟩)] w fun e w' => e = .returned (.string (S r)) ∧ ∃ v', v'.ownBlock = v.ownBlock ∧ FCells w' fb (frL lim (p + r.length) v' (FrMath.look lim [])) ∧ FOwn w' (fb + 1) v' [] ∧ Below fb w w' ∧ ∀ b, b < w.heap.size → b ≠ fb → w'.heap[b]? = w.heap[b]? := by
  obtain ⟨ad, n, cp, rfl⟩ := own_slice hown
  obtain ⟨hn, hnc⟩ := own_size hown
  obtain ⟨⟨c0, c1, c2, c3, c4, c5⟩, y1, y2, y3, y4, y5⟩ := cells6 hC
  have hfb : fb < w.heap.size := hC.lt
  have hcv := own_conv hown
  have hsz : (S r).size = n := by rw [S_size, hn]
  obtain ⟨wS, hwS⟩ : ∃ wS, (w.setCell ⟨fb, 1, none⟩ (.int .i64 ((p + n : Nat) : Int))).setCell ⟨fb, 2, none⟩ (.slice ad 0 cp) = wS := ⟨_, rfl⟩
  have hCS : FCells wS fb (frL lim (p + r.length) (.slice ad 0 cp) h) := by rw [← hwS, ← hn]; exact (hC.set 1 (by simp) _).set 2 (by simp) _
  have heS : ∀ b, b ≠ fb → wS.heap[b]? = w.heap[b]? := fun b hb => by rw [← hwS, Below.heap_setCell _ _ _ _ hb, Below.heap_setCell _ _ _ _ hb]
  have hownS : FOwn wS (fb + 1) (.slice ad 0 cp) [] := by
    have := own_take hown 0 (Nat.zero_le _)
    rw [List.take_zero] at this
    exact fown_below this (fun g hg => heS g (by have := (own_lt this hg).1; omega))
  have hBS : Below fb w wS := by
    rw [← hwS]
    refine Below.setCell (Below.setCell (Below.refl _ _) ?_ _) ?_ _ <;> exact Nat.le_refl _
  have hLk : Hid (Calls Try.prog 36 #[.pointer (some ⟨fb, 0, none⟩)] wS fun e w' => e = .returned (.tuple #[]) ∧ FCells w' fb (frL lim (p + r.length) (.slice ad 0 cp) (FrMath.look lim [])) ∧ Below fb wS w' ∧ ∀ b, b < wS.heap.size → b ≠ fb → w'.heap[b]? = wS.heap[b]?) := fLook_any fb lim _ _ _ _ wS hCS hownS
  have hnS : Hid (wS.heap.size = w.heap.size) := by unfold Hid; rw [← hwS]; simp
  have hwS' : Hid ((w.setCell ⟨fb, 1, none⟩ (.int .i64 ((p + n : Nat) : Int))).setCell ⟨fb, 2, none⟩ (.slice ad 0 cp) = wS) := hwS
  have hcast : Hid ((p : Int) + (n : Int) = ((p + n : Nat) : Int)) := by unfold Hid; omega
  have hnr : n ≤ 1073741824 := by omega
  have hown' : Hid (FOwn wS (fb + 1) (.slice ad 0 cp) []) := hownS
  clear hCS hownS hwS hn hr hown
  go_enter Try.func20, Try.ntmps20
  go_wp2_with fail
  rw [hcast.out, hwS'.out]
  refine hLk.out.mono ?_
  rintro e w9 ⟨rfl, hC9, hB9, he9⟩
  go_wp2_with fail
  go_ret
  refine ⟨rfl, .slice ad 0 cp, ?_, hC9, fown_below hown'.out (fun g hg => ?_), hBS.trans hB9, fun b hb hbn => ?_⟩
  · cases ad <;> rfl
  · have h1 := own_lt hown'.out hg
    exact he9 g h1.2 (by omega)
  · rw [he9 b (by rw [hnS.out]; exact hb) hbn, heS b hbn]
end Go.Proofs.Ythaonpmmfennhaa

namespace Go.Proofs.Ythaonpmmfennhaa
open Go.RowKit
open FrMath (Hdr lb bd within Out ends cut Cut)

theorem made_size (n : Nat) : (madeCells #[.int .u8 0] n).size = n := by simp [madeCells]

/-- The copy into new room. -/
theorem copied_new (fb : Nat) (ad : Option Addr) (n cp : Nat) (r : List UInt8) (w : World) (hown : FOwn w (fb + 1) (.slice ad n cp) r) (hfb : fb < w.heap.size) (hn : n ≤ 1073741824) :
    ∃ wC, (Builtin.copy_ #[32, 32] 3 #[.slice (some ⟨w.heap.size, 0, none⟩) n n, .slice ad n cp]).run Try.prog (w.alloc (.cells (madeCells #[.int .u8 0] n) 5)) = .ok (goInt n) wC
      ∧ FOwn wC (fb + 1) (.slice (some ⟨w.heap.size, 0, none⟩) n n) r ∧ (∀ b, b < w.heap.size → wC.heap[b]? = w.heap[b]?) ∧ Below w.heap.size w wC := by
  obtain ⟨hnr, hnc⟩ := own_size hown
  have hg : (w.alloc (.cells (madeCells #[.int .u8 0] n) 5)).heap[w.heap.size]? = some (.cells (madeCells #[.int .u8 0] n) 5 (0, 0)) := heap_alloc_new w _
  by_cases h0 : n = 0
  · subst h0
    have hr : r = [] := List.eq_nil_of_length_eq_zero hnr.symm
    subst hr
    refine ⟨_, run_copy_none (P := Try.prog) (w.alloc (.cells (madeCells #[.int .u8 0] 0) 5)) 32 32 3 5 _ _ 0 0 0 cp Try.underlying32 u8_one rfl, ?_, fun b hb => Below.heap_alloc _ _ _ hb, (Below.refl _ _).alloc (Nat.le_refl _) _⟩
    exact ⟨rfl, Or.inr ⟨w.heap.size, 0, _, rfl, by omega, hg, Nat.le_refl _, by unfold maxLen; omega, by rw [made_size], by simp [bv]⟩⟩
  · rcases hown with ⟨hx, ⟨hv, hz⟩ | ⟨gH, cap, cur, hv, h3, h4, h5, h6, h7, h8⟩⟩
    · injection hv with _ e2 _
      omega
    · injection hv with e1 e2 e3
      subst e1 e3
      rw [Nat.mul_one, ← hnr] at h8
      have hlt : gH < w.heap.size := by
        rcases Nat.lt_or_ge gH w.heap.size with h' | h'
        · exact h'
        · rw [Array.getElem?_eq_none h'] at h4; cases h4
      have hlb : (bv r).length = n := by rw [bv_len, hnr]
      have hsrc : ∀ j v, (bv r)[j]? = some v → (w.alloc (.cells (madeCells #[.int .u8 0] n) 5)).cell? ((⟨gH, 0, none⟩ : Addr).add j) = some v := by
        intro j v hj
        have hjn : j < n := by rw [← hlb]; exact (List.getElem?_eq_some_iff.1 hj).1
        rw [add_j, World.cell?_of_block (w := w) (Below.heap_alloc w _ _ hlt)]
        unfold World.cell?
        simp only [h4]
        rw [← h8, List.getElem?_take_of_lt hjn] at hj
        simpa using hj
      have hrun := run_copy_row (P := Try.prog) (w.alloc (.cells (madeCells #[.int .u8 0] n) 5)) 32 32 3 5 w.heap.size 0 n n ⟨gH, 0, none⟩ n cp (madeCells #[.int .u8 0] n) 5 (bv r) Try.underlying32 u8_one hg (by rw [hlb]; exact (Nat.min_self n).symm) hsrc (by rw [hlb, made_size]; omega) (bv_one _)
      rw [hlb] at hrun
      refine ⟨_, hrun, ?_, fun b hb => ?_, below_setRow ((Below.refl _ _).alloc (Nat.le_refl _) _) (Nat.le_refl _) _⟩
      · have hms := made_size n
        unfold FOwn
        rw [← hnr]
        refine ⟨by rw [hlb]; omega, Or.inr ⟨w.heap.size, n, _, rfl, by omega, setRow_heap _ _ _ _ _ _ hg, Nat.le_refl _, by unfold maxLen; omega, ?_, ?_⟩⟩
        · simp [hlb, hms]
        · rw [Nat.mul_one]
          show List.take n (List.take 0 _ ++ bv r ++ _) = _
          rw [List.take_zero, List.nil_append, List.take_left' hlb]
      · rw [setRow_other _ _ _ _ (by omega)]
        exact Below.heap_alloc _ _ _ hb

set_option maxRecDepth 100000 in
set_option maxHeartbeats 400000 in
theorem shrink_any (fb : Nat) (lim : Int) (p : Nat) (v : Value) (r : List UInt8) (h : Hdr) (w : World) (hC : FCells w fb (frL lim p v h)) (hown : FOwn w (fb + 1) v r) (hr : r.length ≤ 1073741824) :
    Calls Try.prog 21 #[.pointer (some ⟨fb, 0, none⟩)] w fun e w' => e = .returned (.tuple #[]) ∧ ∃ v', v'.ownBlock = some w.heap.size ∧ FCells w' fb (frL lim p v' h) ∧ FOwn w' (fb + 1) v' r ∧ Below fb w w' ∧ ∀ b, b < w.heap.size → b ≠ fb → w'.heap[b]? = w.heap[b]? := by
  obtain ⟨ad, n, cp, rfl⟩ := own_slice hown
  obtain ⟨hn, hnc⟩ := own_size hown
  obtain ⟨⟨c0, c1, c2, c3, c4, c5⟩, y1, y2, y3, y4, y5⟩ := cells6 hC
  have hfb : fb < w.heap.size := hC.lt
  have hn3 : n ≤ 1073741824 := by omega
  have hmk : ∀ W, (Instr.makeSlice 32 (.int .i64 (n : Int)) (.int .i64 (n : Int))).run Try.prog W = .ok (.slice (some ⟨W.heap.size, 0, none⟩) n n) (W.alloc (.cells (madeCells #[.int .u8 0] n) 5)) :=
    fun W => run_make_row' 32 5 (.int .u8 0) 1 Try.underlying32 info_u8 rfl .i64 .i64 n (by omega) (by omega) W
  obtain ⟨wC, hrun, hownC, heC, hBC⟩ := copied_new fb ad n cp r w hown hfb hn3
  have hCC : FCells wC fb (frL lim p (.slice ad n cp) h) := hC.of_block (heC fb hfb)
  obtain ⟨⟨f0, f1, f2, f3, f4, f5⟩, z1, z2, z3, z4, z5⟩ := cells6 hCC
  have hC2 : Hid (FCells (wC.setCell ⟨fb, 2, none⟩ (.slice (some ⟨w.heap.size, 0, none⟩) n n)) fb (frL lim p (.slice (some ⟨w.heap.size, 0, none⟩) n n) h)) := hCC.set 2 (by simp) _
  have hown2 : Hid (FOwn (wC.setCell ⟨fb, 2, none⟩ (.slice (some ⟨w.heap.size, 0, none⟩) n n)) (fb + 1) (.slice (some ⟨w.heap.size, 0, none⟩) n n) r) := fown_below hownC (fun g hg => Below.heap_setCell _ _ _ _ (by show g ≠ fb; have := (own_lt hownC hg).1; omega))
  have hB2 : Hid (Below fb w (wC.setCell ⟨fb, 2, none⟩ (.slice (some ⟨w.heap.size, 0, none⟩) n n))) := by
    unfold Hid
    refine Below.setCell (hBC.mono (Nat.le_of_lt hfb)) ?_ _
    exact Nat.le_refl _
  have hK2 : Hid (∀ b, b < w.heap.size → b ≠ fb → (wC.setCell ⟨fb, 2, none⟩ (.slice (some ⟨w.heap.size, 0, none⟩) n n)).heap[b]? = w.heap[b]?) := fun b hb hbn => by rw [Below.heap_setCell _ _ _ _ hbn, heC b hb]
  clear hCC hownC heC hBC hn hr hown hC
  go_enter Try.func21, Try.ntmps21
  go_wp2_with fail
  go_end0
  exact ⟨rfl, _, rfl, hC2.out, hown2.out, hB2.out, hK2.out⟩

theorem eq_header (a b c x y z : Int) (W : World) :
    (binOp .eql 51 (.agg #[.int .i64 a, .int .i64 b, .int .i64 c]) (.agg #[.int .i64 x, .int .i64 y, .int .i64 z])).run Try.prog W = .ok (.bool ((a == x) && (b == y) && (c == z))) W := by
  have hS : Try.prog.underlying 51 = some (.struct (Try.prog.fieldsOf 51)) := by kernel_rfl
  have hp : Try.prog.stoodInHeld 51 = false := by kernel_rfl
  rw [run_eql_struct, run_equalIn_struct _ _ _ _ _ hS hp]
  simp only [Program.fieldsOf, Try.underlying51]
  simp [Op.eqFields, go_sem]
  by_cases h1 : a = x <;> by_cases h2 : b = y <;> by_cases h3 : c = z <;> simp [h1, h2, h3]

theorem new_any (lim : Int) (w : World) :
    Calls Try.prog 5 #[.int .i64 lim] w fun e w' => ∃ fb, e = .returned (.pointer (some ⟨fb, 0, none⟩)) ∧ w.heap.size ≤ fb ∧ w'.heap.size = fb + 1 ∧ FCells w' fb (frL lim 0 (.slice none 0 0) ⟨2, 2, 0⟩) ∧ Below w.heap.size w w' := by
  have hLk : ∀ W, Hid (Calls Try.prog 17 #[.int .i64 lim, .string ⟨#[]⟩] W fun r w' => r = .returned (hV ⟨2, 2, 0⟩) ∧ Below W.heap.size W w') := fun W => look_any lim ⟨#[]⟩ W (by decide)
  go_enter Try.func5, Try.ntmps5
  go_wp2_with fail
  refine (hLk _).out.mono ?_
  rintro r w1 ⟨rfl, hb1⟩
  go_wp2_with fail
  go_ret
  refine ⟨w1.heap.size, rfl, hb1.size, by simp, ?_, hb1.alloc hb1.size _⟩
  intro j hj
  have : j = 0 ∨ j = 1 ∨ j = 2 ∨ j = 3 ∨ j = 4 ∨ j = 5 := by simp at hj; omega
  rcases this with rfl | rfl | rfl | rfl | rfl | rfl <;> simp [go_sem]
end Go.Proofs.Ythaonpmmfennhaa

namespace Go.Proofs.Ythaonpmmfennhaa
open Go.RowKit
open FrMath (Hdr lb bd within Out ends cut Cut)

/-- The beginning of a message that is not whole. -/
def proper (lim : Int) (r : List UInt8) : Prop := (FrMath.look lim r).er = 0 ∧ r.length < (FrMath.look lim r).sz
theorem proper_nil (lim : Int) : proper lim [] := ⟨rfl, by rw [FrMath.look_nil]; decide⟩
theorem proper_cut {lim : Int} {r : List UInt8} (h : proper lim r) : Cut lim r = ⟨[], 0, 0⟩ := by
  rw [FrMath.Cut_end lim r (Or.inr h.2), h.1]
/-- How much take wants. -/
def wants (lim : Int) (r : List UInt8) : Nat := if (FrMath.look lim r).mi = 0 then (FrMath.look lim r).sz - r.length else (FrMath.look lim r).mi
theorem wants_pos {lim : Int} {r : List UInt8} (h : proper lim r) : 1 ≤ wants lim r := by
  unfold wants
  have := h.2
  split <;> omega
theorem cut_refused {lim : Int} {r c : List UInt8} (h : (FrMath.look lim r).er ≠ 0) : Cut lim (r ++ c) = ⟨[], 0, (FrMath.look lim r).er⟩ := by
  have hm := (FrMath.look_er lim r h).1
  have hw := FrMath.look_whole lim r c hm
  rw [FrMath.Cut_end lim _ (Or.inl (by rw [hw]; exact h)), hw]
theorem cut_whole {lim : Int} {r c : List UInt8} (h : FrMath.look lim r = ⟨0, r.length, 0⟩) : Cut lim (r ++ c) = FrMath.ahead [r] r.length (Cut lim c) := by
  have hw := FrMath.look_whole lim r c (by rw [h])
  have hE : ¬ ends lim (r ++ c) := by
    unfold FrMath.ends
    rw [hw, h, List.length_append]
    simp
  rw [FrMath.Cut_on lim _ hE, hw, h]
  show FrMath.ahead [List.take r.length (r ++ c)] r.length (Cut lim (List.drop r.length (r ++ c))) = _
  rw [List.take_left, List.drop_left]
theorem take_step {lim : Int} {r c : List UInt8} {q : Nat} (h : proper lim r) (hq : q = if c.length < wants lim r then c.length else wants lim r) :
    (FrMath.look lim (r ++ c.take q)).er ≠ 0 ∨ ((FrMath.look lim (r ++ c.take q)).er = 0 ∧ (FrMath.look lim (r ++ c.take q) = ⟨0, (r ++ c.take q).length, 0⟩ ∨ (proper lim (r ++ c.take q) ∧ ¬ (FrMath.look lim (r ++ c.take q)).sz = (r ++ c.take q).length))) := by
  by_cases he : (FrMath.look lim (r ++ c.take q)).er = 0
  · refine Or.inr ⟨he, ?_⟩
    have hq1 : q ≤ c.length ∧ q ≤ wants lim r := by rw [hq]; split <;> omega
    have hl : (r ++ c.take q).length = r.length + q := by rw [List.length_append, List.length_take]; omega
    have hok := FrMath.look_ok lim _ he
    have hmono := FrMath.look_mono lim r (c.take q) h.1 he
    have hokr := FrMath.look_ok lim r h.1
    have hle : (r ++ c.take q).length ≤ (FrMath.look lim (r ++ c.take q)).sz := by
      have hw := hq1.2
      unfold wants at hw
      by_cases hm : (FrMath.look lim r).mi = 0
      · rw [if_pos hm] at hw
        have := h.2
        omega
      · rw [if_neg hm] at hw
        have := (hokr.2.2.2.1 hm).1
        omega
    by_cases heq : (FrMath.look lim (r ++ c.take q)).sz = (r ++ c.take q).length
    · left
      have hm : (FrMath.look lim (r ++ c.take q)).mi = 0 := by
        by_cases hm : (FrMath.look lim (r ++ c.take q)).mi = 0
        · exact hm
        · have := (hok.2.2.2.1 hm).1
          omega
      rw [← heq]
      generalize FrMath.look lim (r ++ c.take q) = x at *
      obtain ⟨a, b, d⟩ := x
      simp only at hm he
      subst hm he
      rfl
    · right
      exact ⟨⟨he, by omega⟩, heq⟩
  · exact Or.inl he

theorem Fresh.refl (v : Value) (w : World) : Fresh v v w := Or.inl rfl
theorem Fresh.trans {v v1 v2 : Value} {w w1 : World} (h : Fresh v v1 w) (h1 : Fresh v1 v2 w1) (hs : w.heap.size ≤ w1.heap.size) : Fresh v v2 w := by
  rcases h1 with h1 | h1
  · rcases h with h | h
    · exact Or.inl (h1.trans h)
    · exact Or.inr (fun b hb => h b (by rw [← h1]; exact hb))
  · exact Or.inr (fun b hb => Nat.le_trans hs (h1 b hb))
theorem Fresh.ne {v v1 : Value} {w : World} (h : Fresh v v1 w) {b : Nat} (hb : b < w.heap.size) (hv : v.ownBlock ≠ some b) : v1.ownBlock ≠ some b := by
  rcases h with h | h
  · rw [h]; exact hv
  · intro hh
    have := h b hh
    omega
theorem Kept.trans {fb : Nat} {v v1 : Value} {w w1 w2 : World} (h : Kept fb v w w1) (hf : Fresh v v1 w) (h1 : Kept fb v1 w1 w2) : Kept fb v w w2 := by
  refine ⟨h.1.trans h1.1, fun b hb hbn hv => ?_⟩
  rw [h1.2 b (Nat.lt_of_lt_of_le hb h.1.size) hbn (hf.ne hb hv), h.2 b hb hbn hv]
theorem Kept.all {fb : Nat} {v : Value} {w w' : World} (hb : Below fb w w') (h : ∀ b, b < w.heap.size → b ≠ fb → w'.heap[b]? = w.heap[b]?) : Kept fb v w w' := ⟨hb, fun b h1 h2 _ => h b h1 h2⟩

def lenV : Value → Nat
  | .slice _ n _ => n
  | _ => 0
/-- What Feed leaves. -/
def FeedQ (fb : Nat) (lim : Int) (p : Nat) (v : Value) (r c : List UInt8) (w : World) (e : Ending) (w' : World) : Prop :=
  ∃ mv v', e = .returned (.tuple #[mv, .int .i64 ((Cut lim (r ++ c)).er : Int)]) ∧ OwnS w' w.heap.size mv (Cut lim (r ++ c)).ms ∧ Fresh v v' w ∧ Kept fb v w w' ∧ (∀ b, v'.ownBlock = some b → mv.ownBlock ≠ some b) ∧
  ((Cut lim (r ++ c)).er = 0 → FCells w' fb (frL lim (p + (Cut lim (r ++ c)).at_) v' (FrMath.look lim ((r ++ c).drop (Cut lim (r ++ c)).at_))) ∧ FOwn w' (fb + 1) v' ((r ++ c).drop (Cut lim (r ++ c)).at_) ∧ proper lim ((r ++ c).drop (Cut lim (r ++ c)).at_)) ∧
  ((Cut lim (r ++ c)).er ≠ 0 → FCells w' fb (frL lim (p + (Cut lim (r ++ c)).at_) v' ⟨0, 0, (Cut lim (r ++ c)).er⟩) ∧ FOwn w' (fb + 1) v' [])
theorem ownS_of {w w' : World} {B : Nat} {v : Value} {l : List (List UInt8)} (h : OwnS w B v l) (hb : ∀ g, v.ownBlock = some g → w'.heap[g]? = w.heap[g]?) : OwnS w' B v l := by
  rcases h with ⟨h1, ⟨rfl, h2⟩ | ⟨g, cap, cur, rfl, h3, h4, h5⟩⟩
  · exact ⟨h1, Or.inl ⟨rfl, h2⟩⟩
  · exact ⟨h1, Or.inr ⟨g, cap, cur, rfl, h3, by rw [hb g rfl]; exact h4, h5⟩⟩
theorem ownS_lt {w : World} {B g : Nat} {v : Value} {l : List (List UInt8)} (h : OwnS w B v l) (hg : v.ownBlock = some g) : B ≤ g ∧ g < w.heap.size := World.ownsRow.lt (show w.ownsRow B 9 1 v l.length (sv l) from h) g hg
/-- A framer in a world, with a list beside it. -/
structure St (fb : Nat) (lim : Int) (p : Nat) (v0 : Value) (w : World) (W : World) (v : Value) (r : List UInt8) (h : Hdr) (mv : Value) (ms : List (List UInt8)) : Prop where
  cells : FCells W fb (frL lim p v h)
  own : FOwn W (fb + 1) v r
  list : OwnS W w.heap.size mv ms
  fresh : Fresh v0 v w
  kept : Kept fb v0 w W
  apart : ∀ b, v.ownBlock = some b → mv.ownBlock ≠ some b
theorem St.step {fb : Nat} {lim : Int} {p p' : Nat} {v0 : Value} {w W W' : World} {v v' : Value} {r r' : List UInt8} {h h' : Hdr} {mv : Value} {ms : List (List UInt8)} (s : St fb lim p v0 w W v r h mv ms) (hfb : fb < w.heap.size)
    (hC : FCells W' fb (frL lim p' v' h')) (ho : FOwn W' (fb + 1) v' r') (hf : Fresh v v' W) (hk : Kept fb v W W') : St fb lim p' v0 w W' v' r' h' mv ms := by
  refine ⟨hC, ho, ownS_of s.list (fun g hg => ?_), s.fresh.trans hf s.kept.1.size, s.kept.trans s.fresh hk, fun b hb hm => ?_⟩
  · have h1 := ownS_lt s.list hg
    exact hk.2 g h1.2 (by omega) (fun hh => s.apart g hh hg)
  · have h1 := ownS_lt s.list hm
    rcases hf with hf | hf
    · exact s.apart b (by rw [← hf]; exact hb) hm
    · have := hf b hb
      omega
theorem St.push {fb : Nat} {lim : Int} {p : Nat} {v0 : Value} {w W w6 : World} {v : Value} {r : List UInt8} {h : Hdr} {mv : Value} {ms : List (List UInt8)} {o : Obj} {m : List UInt8} {g6 k6 cap6 : Nat} (s : St fb lim p v0 w W v r h mv ms) (hfb : fb < w.heap.size)
    (hown6 : OwnS w6 w.heap.size (.slice (some ⟨g6, 0, none⟩) k6 cap6) (ms ++ [m])) (hgr : (W.alloc o).grownBy w6 mv.ownBlock) (hlie : mv.ownBlock = some g6 ∨ g6 = (W.alloc o).heap.size) (hb6 : Below w.heap.size (W.alloc o) w6) :
    St fb lim p v0 w w6 v r h (.slice (some ⟨g6, 0, none⟩) k6 cap6) (ms ++ [m]) := by
  have hn : w.heap.size ≤ W.heap.size := s.kept.1.size
  refine ⟨s.cells.of_block ?_, fown_below s.own (fun g hg => ?_), hown6, s.fresh, ⟨?_, fun b hb hbn hv => ?_⟩, fun b hb hh => ?_⟩
  · rw [hb6.block fb hfb, Below.heap_alloc _ _ _ (by omega)]
  · have h1 := own_lt s.own hg
    rw [hgr.block g (by simp; omega) (fun hh => s.apart g hg hh.symm), Below.heap_alloc _ _ _ h1.2]
  · exact s.kept.1.trans (((Below.refl _ _).alloc (by omega) _).trans (hb6.mono (Nat.le_of_lt hfb)))
  · rw [hb6.block b hb, Below.heap_alloc _ _ _ (by omega), s.kept.2 b hb hbn hv]
  · have h1 := own_lt s.own hb
    injection hh with hh
    replace hh : g6 = b := hh
    subst hh
    rcases hlie with h2 | h2
    · exact s.apart _ hb h2
    · simp at h2
      omega
theorem endOk {fb : Nat} {lim : Int} {p pp : Nat} {v0 : Value} {w W : World} {v : Value} {r r0 c0 : List UInt8} {mv : Value} {ms : List (List UInt8)} (s : St fb lim (p + pp) v0 w W v r (FrMath.look lim r) mv ms) (hpr : proper lim r)
    (hcut : Cut lim (r0 ++ c0) = FrMath.ahead ms pp (Cut lim r)) (hdr : (r0 ++ c0).drop pp = r) (n : Nat) : FeedQ fb lim p v0 r0 c0 w (.returned (.tuple #[mv, .int .i64 0])) (W.drewN n) := by
  have ho : Cut lim (r0 ++ c0) = ⟨ms, pp, 0⟩ := by rw [hcut, proper_cut hpr]; unfold FrMath.ahead; simp
  unfold FeedQ
  rw [ho]
  refine ⟨mv, v, rfl, s.list, s.fresh, ⟨below_drewN s.kept.1 n, s.kept.2⟩, s.apart, fun _ => ?_, fun h => absurd rfl h⟩
  show FCells (W.drewN n) fb (frL lim (p + pp) v (FrMath.look lim ((r0 ++ c0).drop pp))) ∧ FOwn (W.drewN n) (fb + 1) v ((r0 ++ c0).drop pp) ∧ proper lim ((r0 ++ c0).drop pp)
  rw [hdr]
  exact ⟨s.cells, s.own, hpr⟩
theorem endBad {fb : Nat} {lim : Int} {p pp er : Nat} {v0 : Value} {w W : World} {v : Value} {r0 c0 : List UInt8} {mv : Value} {ms : List (List UInt8)} (s : St fb lim (p + pp) v0 w W v [] ⟨0, 0, er⟩ mv ms) (he : er ≠ 0)
    (hcut : Cut lim (r0 ++ c0) = FrMath.ahead ms pp ⟨[], 0, er⟩) (n : Nat) : FeedQ fb lim p v0 r0 c0 w (.returned (.tuple #[mv, .int .i64 (er : Int)])) (W.drewN n) := by
  have ho : Cut lim (r0 ++ c0) = ⟨ms, pp, er⟩ := by rw [hcut]; unfold FrMath.ahead; simp
  unfold FeedQ
  rw [ho]
  exact ⟨mv, v, rfl, s.list, s.fresh, ⟨below_drewN s.kept.1 n, s.kept.2⟩, s.apart, fun h => absurd h he, fun _ => ⟨s.cells, s.own⟩⟩
end Go.Proofs.Ythaonpmmfennhaa

namespace Go.Proofs.Ythaonpmmfennhaa
open Go.RowKit
open FrMath (Hdr lb bd within Out ends cut Cut)

set_option maxRecDepth 100000 in
set_option maxHeartbeats 1000000 in
theorem feed_any (fb : Nat) (lim : Int) (p : Nat) (v0 : Value) (r0 c0 : List UInt8) (w : World) (g off0 cap0 : Nat)
    (hC0 : FCells w fb (frL lim p v0 (FrMath.look lim r0))) (hown0 : FOwn w (fb + 1) v0 r0) (hpr0 : proper lim r0) (hgl : g < w.heap.size) (hgf : g ≠ fb) (hgv : v0.ownBlock ≠ some g) (hck0 : Chk w g off0 c0) (hcc0 : c0.length ≤ cap0) (hcap0 : cap0 ≤ 9223372036854775807)
    (hsz : r0.length + c0.length ≤ 67108864) (hp : p ≤ 67108864) :
    Calls Try.prog 7 #[.pointer (some ⟨fb, 0, none⟩), .slice (some ⟨g, off0, none⟩) c0.length cap0] w fun e w' => FeedQ fb lim p v0 r0 c0 w e w' := by
  obtain ⟨⟨k0, k1, k2, k3, k4, k5⟩, _⟩ := cells6 hC0
  have hfb : fb < w.heap.size := hC0.lt
  rw [hpr0.1] at k5
  go_enter Try.func7, Try.ntmps7
  go_wp2_with fail
  go_step3
  go_wp2_with fail
  go_step3
  go_wp2_with fail
  clear k0 k1 k2 k3 k4 k5
  go_loopw [1, 6] (fun cv mv wr => ∃ (r c : List UInt8) (pp : Nat) (ms : List (List UInt8)) (v : Value) (off cap : Nat), cv = .slice (some ⟨g, off, none⟩) c.length cap ∧ c.length ≤ cap ∧ cap ≤ 9223372036854775807 ∧ Hid (Chk wr g off c) ∧ Hid (St fb lim (p + pp) v0 w wr v r (FrMath.look lim r) mv ms) ∧ Hid (proper lim r)
      ∧ Hid (Cut lim (r0 ++ c0) = FrMath.ahead ms pp (Cut lim (r ++ c))) ∧ Hid ((r0 ++ c0).drop pp = r ++ c ∧ pp + (r.length + c.length) = r0.length + c0.length ∧ 2 * ms.length ≤ pp)) (fun cv _ _ => lenV cv)
  case atStart =>
    refine ⟨r0, c0, 0, [], v0, off0, cap0, rfl, hcc0, hcap0, hck0, ⟨hC0, hown0, ownS_nil _ _, Fresh.refl _ _, Kept.all (Below.refl _ _) (fun b _ _ => rfl), fun b _ hh => by cases hh⟩, hpr0, ?_, ?_⟩
    · unfold Hid; rw [FrMath.ahead_nil]
    · unfold Hid; simp
  case round =>
    obtain ⟨r, c, pp, ms, v, off, cap, rfl, hcc, hcap, hck, hstH, hpr, hcut, hdr⟩ := hrel
    obtain ⟨ma, mc, rfl⟩ : ∃ a c, u6 = .slice a ms.length c := by
      rcases ownS_form hstH.out.list with ⟨rfl, rfl⟩ | ⟨g', cap', rfl⟩
      · exact ⟨_, _, rfl⟩
      · exact ⟨_, _, rfl⟩
    clear hC0 hown0 hck0 hcc0 hcap0
    by_cases hc0 : c.length = 0
    · have hcn : c = [] := List.eq_nil_of_length_eq_zero hc0
      subst hcn
      rw [List.append_nil] at hcut hdr
      have hst := hstH.out
      obtain ⟨⟨k0, k1, k2, k3, k4, k5⟩, _⟩ := cells6 hst.cells
      rw [hpr.out.1] at k5
      by_cases hm0 : ms.length = 0
      · have hm1 : ¬ 0 < ms.length := by omega
        clear hm0
        go_wp2_with fail
        go_quiet (fail)
        go_wp2_with fail
        go_ret2
        exact endOk hst hpr.out hcut.out hdr.out.1 _
      · have hm1 : 0 < ms.length := by omega
        have hSh : Hid (Calls Try.prog 21 #[.pointer (some ⟨fb, 0, none⟩)] wr fun e w' => e = .returned (.tuple #[]) ∧ ∃ v', v'.ownBlock = some (wr).heap.size ∧ FCells w' fb (frL lim (p + pp) v' (FrMath.look lim r)) ∧ FOwn w' (fb + 1) v' r ∧ Below fb (wr) w' ∧ ∀ b, b < (wr).heap.size → b ≠ fb → w'.heap[b]? = (wr).heap[b]?) := shrink_any fb lim (p + pp) _ _ _ _ hst.cells hst.own (by have := hdr.out.2.1; omega)
        clear hm0
        go_wp2_with fail
        refine hSh.out.mono ?_
        rintro e w9 ⟨rfl, v9, hv9, hC9, ho9, hB9, he9⟩
        have hst9 := hst.step hfb hC9 ho9 (Or.inr (fun b hb => by rw [hv9] at hb; injection hb with hb; omega)) (Kept.all hB9 he9)
        obtain ⟨⟨j0, j1, j2, j3, j4, j5⟩, _⟩ := cells6 hC9
        rw [hpr.out.1] at j5
        go_wp2_with fail
        go_quiet (fail)
        go_wp2_with fail
        go_ret2
        exact endOk hst9 hpr.out hcut.out hdr.out.1 _
    · have hsize : Hid (w.heap.size ≤ wr.heap.size) := hstH.out.kept.1.size
      have hgv' : v.ownBlock ≠ some g := hstH.out.fresh.ne hgl hgv
      obtain ⟨q, hq⟩ : ∃ q, q = if c.length < wants lim r then c.length else wants lim r := ⟨_, rfl⟩
      have hq1 : 1 ≤ q := by have := wants_pos hpr.out; rw [hq]; split <;> omega
      have hqc : q ≤ c.length := by rw [hq]; split <;> omega
      have hTk : Hid (Calls Try.prog 19 #[.pointer (some ⟨fb, 0, none⟩), .slice (some ⟨g, off, none⟩) c.length cap] wr fun e w' => TakeQ fb lim (p + pp) v r wr g c q e w') := by
        refine take_any fb lim (p + pp) v r _ wr g off cap c (wants lim r) q hstH.out.cells hstH.out.own rfl hq hq1 (Nat.lt_of_lt_of_le hgl hsize.out) hgf hgv' hck.out hcc hcap ?_ ?_ ?_
        · have := hdr.out.2.1; omega
        · exact (FrMath.look_ok lim r hpr.out.1).2.1
        · exact (FrMath.look_ok lim r hpr.out.1).2.2.1
      have hstep := take_step hpr.out hq
      have hcp : 0 < c.length := by omega
      have hlen1 : Hid ((r ++ c.take q).length + (c.drop q).length = r.length + c.length) := by unfold Hid; rw [List.length_append, List.length_take, List.length_drop]; omega
      have happ : Hid (r ++ c = (r ++ c.take q) ++ c.drop q) := by unfold Hid; rw [List.append_assoc, List.take_append_drop]
      have hmeas : Hid (c.length - q < c.length) := by unfold Hid; omega
      have hdl : Hid ((c.drop q).length = c.length - q) := List.length_drop
      clear hc0 hq
      go_wp2_with fail
      refine hTk.out.mono ?_
      rintro e w1 ⟨off1, cap1, v1, rfl, hcc1, hcap1, hck1, hC1, hown1, hfr1, hkp1⟩
      have hst1 := hstH.out.step hfb hC1 hown1 hfr1 hkp1
      rw [happ.out] at hcut hdr
      clear hTk hck hC1 hown1 hfr1 hkp1 happ
      generalize r ++ c.take q = r1 at *
      generalize c.drop q = c1 at *
      obtain ⟨ad, n, cp, rfl⟩ := own_slice hst1.own
      obtain ⟨hn1, hnc1⟩ := own_size hst1.own
      have hfb1 : fb < w1.heap.size := Nat.lt_of_lt_of_le hfb hst1.kept.1.size
      obtain ⟨⟨k0, k1, k2, k3, k4, k5⟩, x1, x2, x3, x4, x5⟩ := cells6 hst1.cells
      rcases hstep with hA | ⟨he, hB | ⟨hpr1, hne⟩⟩
      · obtain ⟨er, her⟩ : ∃ er, (FrMath.look lim r1).er = er := ⟨_, rfl⟩
        have hl0 : FrMath.look lim r1 = ⟨0, 0, er⟩ := by
          obtain ⟨e1, e2, _⟩ := FrMath.look_er lim r1 hA
          generalize FrMath.look lim r1 = x at *
          obtain ⟨a, b, d⟩ := x
          simp only at e1 e2 her
          subst e1 e2 her
          rfl
        have hcutA : Hid (Cut lim (r0 ++ c0) = FrMath.ahead ms pp ⟨[], 0, er⟩) := by unfold Hid; rw [hcut.out, cut_refused hA, her]
        have her0 : er ≠ 0 := by rw [← her]; exact hA
        have hd1 : ((er : Int) != 0) = true := by simp; omega
        rw [hl0] at k3 k4 k5 hst1
        have hst : St fb lim (p + pp) v0 w ((w1.setCell ⟨fb, 2, none⟩ (.slice none 0 0)).alloc (.cells #[.int .i64 0, .int .i64 (n : Int), .int .i64 0] 51)) (.slice none 0 0) [] ⟨0, 0, er⟩ (.slice ma ms.length mc) ms := by
          have hfb2 : fb < (w1.setCell ⟨fb, 2, none⟩ (.slice none 0 0)).heap.size := by rw [World.size_setCell]; exact hfb1
          refine hst1.step hfb ((hst1.cells.set 2 (by simp) _).of_block (Below.heap_alloc _ _ _ hfb2)) ⟨rfl, Or.inl ⟨rfl, rfl⟩⟩ (Or.inr (fun b hb => by cases hb)) (Kept.all ?_ (fun b hb hbn => ?_))
          · refine Below.alloc (Below.setCell (Below.refl _ _) ?_ _) (Nat.le_of_lt hfb2) _
            exact Nat.le_refl _
          · rw [Below.heap_alloc _ _ _ (by rw [World.size_setCell]; exact hb), Below.heap_setCell _ _ _ _ hbn]
        clear hA her hl0 hcut hdr hst1 hn1 hck1 hstH
        go_upto_region 11 with fail
        generalize ((w1.setCell ⟨fb, 2, none⟩ (.slice none 0 0)).alloc (.cells #[.int .i64 0, .int .i64 (n : Int), .int .i64 0] 51)) = W at *
        obtain ⟨⟨k0, k1, k2, k3, k4, k5⟩, _⟩ := cells6 hst.cells
        simp only at k5
        by_cases hm0 : ms.length = 0
        · have hm1 : ¬ 0 < ms.length := by omega
          clear hm0
          go_wp2_with fail
          go_quiet (fail)
          go_wp2_with fail
          go_ret2
          exact endBad hst her0 hcutA.out _
        · have hm1 : 0 < ms.length := by omega
          have hSh : Hid (Calls Try.prog 21 #[.pointer (some ⟨fb, 0, none⟩)] W fun e w' => e = .returned (.tuple #[]) ∧ ∃ v', v'.ownBlock = some (W).heap.size ∧ FCells w' fb (frL lim (p + pp) v' ⟨0, 0, er⟩) ∧ FOwn w' (fb + 1) v' [] ∧ Below fb (W) w' ∧ ∀ b, b < (W).heap.size → b ≠ fb → w'.heap[b]? = (W).heap[b]?) := shrink_any fb lim (p + pp) _ _ _ _ hst.cells hst.own (by simp)
          clear hm0
          go_wp2_with fail
          refine hSh.out.mono ?_
          rintro e w9 ⟨rfl, v9, hv9, hC9, ho9, hB9, he9⟩
          have hst9 := hst.step hfb hC9 ho9 (Or.inr (fun b hb => by rw [hv9] at hb; injection hb with hb; omega)) (Kept.all hB9 he9)
          obtain ⟨⟨j0, j1, j2, j3, j4, j5⟩, _⟩ := cells6 hC9
          simp only at j5
          go_wp2_with fail
          go_quiet (fail)
          go_wp2_with fail
          go_ret2
          exact endBad hst9 her0 hcutA.out _
      · have hlen : r1.length = n := hn1.symm
        have hfb2 : Hid (fb < w1.heap.size) := hfb1
        have hr2 : Hid (2 ≤ r1.length) := by have := (FrMath.look_ok lim r1 he).1; rw [hB] at this; exact this
        have hkg1 : Hid (w1.heap[g]? = w.heap[g]?) := hst1.kept.2 g hgl hgf hgv
        have hcutB : Hid (Cut lim (r0 ++ c0) = FrMath.ahead (ms ++ [r1]) (pp + r1.length) (Cut lim c1)) := by unfold Hid; rw [hcut.out, cut_whole hB, FrMath.ahead_snoc]
        have hst2 : St fb lim (p + pp) v0 w (w1.alloc (.cells #[.int .i64 0, .int .i64 (n : Int), .int .i64 0] 51)) (.slice ad n cp) r1 ⟨0, n, 0⟩ (.slice ma ms.length mc) ms := by
          rw [hB, hlen] at hst1
          exact hst1.step hfb (hst1.cells.of_block (Below.heap_alloc _ _ _ hfb1)) (World.ownsRow.alloc hst1.own _) (Fresh.refl _ _) (Kept.all ((Below.refl _ _).alloc (Nat.le_of_lt hfb1) _) (fun b hb _ => Below.heap_alloc _ _ _ hb))
        have hGv : ∀ m, Hid (Calls Try.prog 20 #[.pointer (some ⟨fb, 0, none⟩)] ((w1.alloc (.cells #[.int .i64 0, .int .i64 (n : Int), .int .i64 0] 51)).drewN m) fun e w' => e = .returned (.string (S r1)) ∧ ∃ v', v'.ownBlock = (Value.slice ad n cp).ownBlock ∧ FCells w' fb (frL lim (p + pp + r1.length) v' (FrMath.look lim [])) ∧ FOwn w' (fb + 1) v' [] ∧ Below fb ((w1.alloc (.cells #[.int .i64 0, .int .i64 (n : Int), .int .i64 0] 51)).drewN m) w' ∧ ∀ b, b < ((w1.alloc (.cells #[.int .i64 0, .int .i64 (n : Int), .int .i64 0] 51)).drewN m).heap.size → b ≠ fb → w'.heap[b]? = ((w1.alloc (.cells #[.int .i64 0, .int .i64 (n : Int), .int .i64 0] 51)).drewN m).heap[b]?) := fun m => give_any fb lim (p + pp) _ r1 _ ((w1.alloc (.cells #[.int .i64 0, .int .i64 (n : Int), .int .i64 0] 51)).drewN m) hst2.cells hst2.own (by have := hdr.out.2.1; omega) (by have := hdr.out.2.1; have := hlen1.out; omega)
        have hEq := fun W => eq_header 0 (n : Int) 0 0 (n : Int) 0 W
        simp only [beq_self_eq_true, Bool.and_self] at hEq
        rw [hB, hlen] at k3 k4 k5
        simp only at k3 k4 k5
        obtain ⟨ol1, ol2, ol3⟩ := hdr.out
        have hl2 : Hid (ms.length ≤ 67108864) := by unfold Hid; omega
        clear hst1 hn1 hB hlen
        go_wp2_with fail
        go_quiet (fail)
        go_wp2_with fail
        refine (hGv _).out.mono ?_
        rintro e w5 ⟨rfl, v5, hv5, hC5, ho5, hB5, he5⟩
        have hst2' : St fb lim (p + pp) v0 w ((w1.alloc (.cells #[.int .i64 0, .int .i64 (n : Int), .int .i64 0] 51)).drewN nq) (.slice ad n cp) r1 ⟨0, n, 0⟩ (.slice ma ms.length mc) ms := ⟨hst2.cells, hst2.own, hst2.list, hst2.fresh, ⟨below_drewN hst2.kept.1 _, hst2.kept.2⟩, hst2.apart⟩
        have hst5 := hst2'.step hfb hC5 ho5 (Or.inl hv5) (Kept.all hB5 he5)
        have hn5 : w.heap.size ≤ w5.heap.size := hst5.kept.1.size
        clear hst2 hst2' hGv hC5 ho5 hB5 he5 hv5 k0 k1 k2 k3 k4 k5 x1 x2 x3 x4 x5
        go_wp2_with (at_builtin; refine push_text _ rfl _ _ rfl w.heap.size _ ms r1 _ rfl rfl ?_ ?_ ?_ hl2.out ?_; (exact World.ownsRow.alloc hst5.list _); (exact heap_alloc_new _ _); (simp; omega); intro g6 cap6 w6 hown6 hgr6 hlie6 hb6)
        have hst6 := hst5.push hfb hown6 hgr6 hlie6 hb6
        rw [Nat.add_assoc] at hst6
        have hck6 : Chk w6 g off1 c1 := hck1.of_block (by rw [hst6.kept.2 g hgl hgf hgv, hkg1.out])
        refine ⟨⟨[], c1, pp + r1.length, ms ++ [r1], v5, off1, cap1, by rw [hdl.out], by rw [hdl.out]; exact hcc1, hcap1, hck6, hst6, proper_nil lim, hcutB, ?_⟩, hmeas.out⟩
        unfold Hid
        refine ⟨?_, ?_, ?_⟩
        · rw [← List.drop_drop, ol1, List.drop_left]
          rfl
        · simp
          have := hlen1.out
          omega
        · rw [List.length_append]
          have := hr2.out
          simp
          omega
      · have hgl1 : Hid (g < w1.heap.size) := Nat.lt_of_lt_of_le hgl hst1.kept.1.size
        have hst2 : St fb lim (p + pp) v0 w (w1.alloc (.cells #[.int .i64 0, .int .i64 (n : Int), .int .i64 0] 51)) (.slice ad n cp) r1 (FrMath.look lim r1) (.slice ma ms.length mc) ms :=
          hst1.step hfb (hst1.cells.of_block (Below.heap_alloc _ _ _ hfb1)) (World.ownsRow.alloc hst1.own _) (Fresh.refl _ _) (Kept.all ((Below.refl _ _).alloc (Nat.le_of_lt hfb1) _) (fun b hb _ => Below.heap_alloc _ _ _ hb))
        have hst2' : Hid (St fb lim (p + pp) v0 w (w1.alloc (.cells #[.int .i64 0, .int .i64 (n : Int), .int .i64 0] 51)) (.slice ad n cp) r1 (FrMath.look lim r1) (.slice ma ms.length mc) ms) := hst2
        have hpr1' : Hid (proper lim r1) := hpr1
        rw [← hn1] at hne
        have hEq : ∀ W, (binOp .eql 51 (.agg #[.int .i64 ((FrMath.look lim r1).mi : Int), .int .i64 ((FrMath.look lim r1).sz : Int), .int .i64 0]) (.agg #[.int .i64 0, .int .i64 (n : Int), .int .i64 0])).run Try.prog W = .ok (.bool false) W := fun W => by
          rw [eq_header]
          have : (((FrMath.look lim r1).sz : Int) == (n : Int)) = false := by rw [beq_eq_false_iff_ne]; omega
          rw [this]
          simp
        rw [he] at k5
        obtain ⟨ol1, ol2, ol3⟩ := hdr.out
        have ol' : Hid (List.drop pp (r0 ++ c0) = r1 ++ c1 ∧ 2 * ms.length ≤ pp) := ⟨ol1, ol3⟩
        generalize (FrMath.look lim r1).mi = mi at *
        generalize (FrMath.look lim r1).sz = sz at *
        clear hst1 hst2 hn1 hpr1 ol1 ol3 he hne
        go_wp2_with fail
        go_quiet (fail)
        go_wp2_with fail
        have hck6 : Chk ((w1.alloc (.cells #[.int .i64 0, .int .i64 (n : Int), .int .i64 0] 51)).drewN nq) g off1 c1 := hck1.of_block (Below.heap_alloc w1 _ _ hgl1.out)
        have s := hst2'.out
        refine ⟨⟨r1, c1, pp, ms, .slice ad n cp, off1, cap1, by rw [hdl.out], by rw [hdl.out]; exact hcc1, hcap1, hck6, ⟨s.cells, s.own, s.list, s.fresh, ⟨below_drewN s.kept.1 _, s.kept.2⟩, s.apart⟩, hpr1', hcut, ?_⟩, hmeas.out⟩
        unfold Hid
        refine ⟨ol'.out.1, ?_, ol'.out.2⟩
        have := hlen1.out
        omega
end Go.Proofs.Ythaonpmmfennhaa

namespace Go.Proofs.Ythaonpmmfennhaa
open Go.RowKit
open FrMath (Hdr lb bd within Out ends cut Cut)

/-- A whole row of texts appended, in a walk. -/
theorem push_many (w : World) {ops : Array Oper} {rest : List Oper} {o : Oper} {a : Act} {Q : Exit → Act → World → Prop} (hgd : o.guard = none) (s x : Operand)
    (ho : o.op = .call { callee := .builtin .append, args := #[s, x], argTypes := #[22, 22] }) (B B' : Nat) (v xv : Value) (l k : List (List UInt8))
    (hs : a.eval s = v) (hx : a.eval x = xv) (hown : OwnS w B v l) (hxo : OwnS w B' xv k) (hB : B ≤ w.heap.size) (hl : l.length + k.length ≤ 134217728)
    (h : ∀ v' w', OwnS w' B v' (l ++ k) → (∀ b, b < w.heap.size → v.ownBlock ≠ some b → w'.heap[b]? = w.heap[b]?) → Fresh v v' w → Below B w w' → wpList Try.prog ops Q rest (a.put o.dst v') w') :
    wpList Try.prog ops Q (o :: rest) a w := by
  obtain ⟨i0, hi, hz0, hz1, hz2⟩ := info_parts finfo_str
  by_cases h0 : k.length = 0
  · have hk : k = [] := List.eq_nil_of_length_eq_zero h0
    subst hk
    obtain ⟨xa, xc, rfl⟩ : ∃ a c, xv = .slice a 0 c := by
      rcases ownS_form hxo with ⟨rfl, _⟩ | ⟨g, cap, rfl⟩
      · exact ⟨_, _, rfl⟩
      · exact ⟨_, _, rfl⟩
    obtain ⟨va, n, c, hv, hnc⟩ : ∃ va n c, v = .slice va n c ∧ n ≤ c := by
      rcases hown with ⟨_, ⟨rfl, h2⟩ | ⟨g, cap, cur, rfl, _, _, h5, _⟩⟩
      · exact ⟨_, _, _, rfl, Nat.le_refl _⟩
      · exact ⟨_, _, _, rfl, h5⟩
    have hf : (Builtin.firstCells i0.size 0 (.slice xa 0 xc)).run Try.prog w = .ok #[] w := by
      cases xa with
      | none => exact run_firstCells_none w i0.size 0 0 xc
      | some d => exact run_firstCells_some w i0.size 0 d 0 xc [] (by simp) (fun j v hj => by simp at hj)
    have hrun : ∀ ty, (Builtin.append_ #[22, 22] ty #[.slice va n c, .slice xa 0 xc]).run Try.prog w = .ok (.slice va n c) w := fun ty => by
      cases va with
      | none => simp [Builtin.append_, run_underlying Try.underlying22, sizeOf, typeInfo, hi, Builtin.lenOf, hnc, hf]
      | some d => simp [Builtin.append_, run_underlying Try.underlying22, sizeOf, typeInfo, hi, Builtin.lenOf, hnc, hf, storeCells]
    refine Lib.wpList_append_run w hgd s x _ _ ho _ _ (hs.trans hv) hx _ _ (hrun _) ?_
    rw [← hv]
    exact h v w (by rw [List.append_nil]; exact hown) (fun b _ _ => rfl) (Fresh.refl _ _) (Below.refl _ _)
  · rcases ownS_form hxo with ⟨rfl, rfl⟩ | ⟨g, cap, rfl⟩
    · exact absurd rfl h0
    · refine wpList_append_lies w hgd s x 22 ho B 9 i0 _ 1 16 Try.underlying22 hi hz0 hz1 hz2 rfl (by decide) v l.length (sv l) hs hown ⟨g, 0, none⟩ k.length cap (sv k) hx (by rw [sv_len]; omega) ?_ ?_ (by omega) (by unfold maxLen; omega) (by omega) hB w.heap.size rfl ?_
      · intro j u hj
        exact World.ownsRow.cells (show w.ownsRow B' 9 1 (.slice (some ⟨g, 0, none⟩) k.length cap) k.length (sv k) from hxo) rfl j u hj
      · intro u hu
        simp only [sv, List.mem_map] at hu
        obtain ⟨m, _, rfl⟩ := hu
        rfl
      · intro g' cap' w' h1 h2 h3 _
        refine h _ w' ?_ (fun b hb hne => h2.block b hb (fun hh => hne hh.symm)) ?_ ?_
        · unfold OwnS
          have e : sv (l ++ k) = sv l ++ sv k := by simp [sv]
          rw [e, List.length_append]
          exact h1
        · rcases h3 with h3 | h3
          · exact Or.inl h3.symm
          · refine Or.inr (fun b hb => ?_)
            injection hb with hb
            replace hb : g' = b := hb
            omega
        · refine (Below.refl _ _).grown h2 hB ?_
          intro k hk
          exact (hown.lt _ hk).1

/-- Feed of a stream that is refused. -/
theorem feedBad_any (fb : Nat) (lim : Int) (p er : Nat) (v cv : Value) (w : World) (hC : FCells w fb (frL lim p v ⟨0, 0, er⟩)) (he : er ≠ 0) :
    Calls Try.prog 7 #[.pointer (some ⟨fb, 0, none⟩), cv] w fun e w' => e = .returned (.tuple #[.slice none 0 0, .int .i64 (er : Int)]) ∧ ∃ n, w' = w.drewN n := by
  obtain ⟨⟨k0, k1, k2, k3, k4, k5⟩, _⟩ := cells6 hC
  simp only at k5
  have d1 : ((er : Int) != 0) = true := by simp; omega
  go_enter Try.func7, Try.ntmps7
  go_wp2_with fail
  go_step3
  go_wp2_with fail
  go_quiet (fail)
  go_wp2_with fail
  unfold Exit.noGoto
  go_ret2
  exact ⟨rfl, _, rfl⟩
theorem held_any (fb : Nat) (lim : Int) (p : Nat) (v : Value) (h : Hdr) (r : List UInt8) (w : World) (hC : FCells w fb (frL lim p v h)) (ho : FOwn w (fb + 1) v r) :
    Calls Try.prog 9 #[.pointer (some ⟨fb, 0, none⟩)] w fun e w' => e = .returned (.int .i64 (r.length : Int)) ∧ w = w' := by
  obtain ⟨ad, n, cp, rfl⟩ := own_slice ho
  obtain ⟨hn, _⟩ := own_size ho
  obtain ⟨⟨k0, k1, k2, k3, k4, k5⟩, _⟩ := cells6 hC
  rw [← hn]
  clear hn ho
  go_enter Try.func9, Try.ntmps9
  go_wp2_with fail
  go_ret
  exact ⟨rfl, rfl⟩
theorem Cut_er_app (lim : Int) (b c : List UInt8) (h : (Cut lim b).er ≠ 0) : Cut lim (b ++ c) = Cut lim b := by
  generalize hn : b.length = n
  induction n using Nat.strongRecOn generalizing b with
  | ind n ih =>
    by_cases hE : ends lim b
    · rw [FrMath.Cut_end lim b hE] at h ⊢
      rw [cut_refused h]
    · obtain ⟨h1, h2, h3, h4⟩ := FrMath.on_ok lim b hE
      have hw := FrMath.look_whole lim b c h4
      have hE' : ¬ ends lim (b ++ c) := by
        unfold FrMath.ends
        rw [hw, h1, List.length_append]
        omega
      rw [FrMath.Cut_on lim b hE] at h
      rw [FrMath.Cut_on lim b hE, FrMath.Cut_on lim _ hE', hw, List.take_append_of_le_length h2, List.drop_append_of_le_length h2]
      rw [ih (b.drop (FrMath.look lim b).sz).length (by rw [List.length_drop]; omega) _ h rfl]
theorem Cut_ok_app (lim : Int) (b c : List UInt8) (h : (Cut lim b).er = 0) : Cut lim (b ++ c) = FrMath.ahead (Cut lim b).ms (Cut lim b).at_ (Cut lim (b.drop (Cut lim b).at_ ++ c)) := by
  generalize hn : b.length = n
  induction n using Nat.strongRecOn generalizing b with
  | ind n ih =>
    by_cases hE : ends lim b
    · rw [FrMath.Cut_end lim b hE]
      show _ = FrMath.ahead [] 0 (Cut lim (List.drop 0 b ++ c))
      rw [List.drop_zero, FrMath.ahead_nil]
    · obtain ⟨h1, h2, h3, h4⟩ := FrMath.on_ok lim b hE
      have hw := FrMath.look_whole lim b c h4
      have hE' : ¬ ends lim (b ++ c) := by
        unfold FrMath.ends
        rw [hw, h1, List.length_append]
        omega
      rw [FrMath.Cut_on lim b hE] at h
      rw [FrMath.Cut_on lim b hE, FrMath.Cut_on lim _ hE', hw, List.take_append_of_le_length h2, List.drop_append_of_le_length h2]
      rw [ih (b.drop (FrMath.look lim b).sz).length (by rw [List.length_drop]; omega) _ h rfl]
      unfold FrMath.ahead
      simp [List.drop_drop, Nat.add_assoc]
end Go.Proofs.Ythaonpmmfennhaa

namespace Go.Proofs.Ythaonpmmfennhaa
open Go.RowKit
open FrMath (Hdr lb bd within Out ends cut Cut)

/-- The place in a Cut's variable. -/
def atOf (W : World) (b : Nat) : Nat := match W.cell? ⟨b, 1, none⟩ with | some v => (intOf v).toNat | none => 0
theorem atOf_of {W : World} {b : Nat} {v x : Value} {p : Nat} (h : FCells W b [v, .int .i64 (p : Int), x]) : atOf W b = p := by
  unfold atOf
  have := (h 1 (by simp)).1
  simp at this
  rw [this]
  simp [intOf]
abbrev cutL (v : Value) (p e : Nat) : List Value := [v, .int .i64 (p : Int), .int .i64 (e : Int)]
/-- What a Split leaves. -/
def cutQ (o : Out) (B : Nat) (r : Ending) (w' : World) : Prop := ∃ v, r = .returned (.agg #[v, .int .i64 (o.at_ : Int), .int .i64 (o.er : Int)]) ∧ OwnS w' B v o.ms

theorem ownS_slice {w : World} {B : Nat} {v : Value} {l : List (List UInt8)} (h : OwnS w B v l) : ∃ a n c, v = .slice a n c := by
  rcases ownS_form h with ⟨rfl, _⟩ | ⟨g, cap, rfl⟩
  · exact ⟨_, _, _, rfl⟩
  · exact ⟨_, _, _, rfl⟩
theorem cells3 {W : World} {b : Nat} {x y z : Value} (h : FCells W b [x, y, z]) :
    W.cell? ⟨b, 0, none⟩ = some x ∧ W.cell? ⟨b, 1, none⟩ = some y ∧ W.cell? ⟨b, 2, none⟩ = some z ∧ W.frozen? ⟨b, 0, none⟩ = false ∧ W.frozen? ⟨b, 1, none⟩ = false ∧ W.frozen? ⟨b, 2, none⟩ = false :=
  ⟨(h 0 (by simp)).1, (h 1 (by simp)).1, (h 2 (by simp)).1, (h 0 (by simp)).2, (h 1 (by simp)).2, (h 2 (by simp)).2⟩
theorem cells3_mk {W : World} {b : Nat} {x y z : Value} (a0 : W.cell? ⟨b, 0, none⟩ = some x) (a1 : W.cell? ⟨b, 1, none⟩ = some y) (a2 : W.cell? ⟨b, 2, none⟩ = some z) (f0 : W.frozen? ⟨b, 0, none⟩ = false) (f1 : W.frozen? ⟨b, 1, none⟩ = false) (f2 : W.frozen? ⟨b, 2, none⟩ = false) : FCells W b [x, y, z] := by
  intro j hj
  have : j = 0 ∨ j = 1 ∨ j = 2 := by simp at hj; omega
  rcases this with rfl | rfl | rfl
  · exact ⟨a0, f0⟩
  · exact ⟨a1, f1⟩
  · exact ⟨a2, f2⟩
theorem cells3_new (W : World) (x y z : Value) (t : TypeId) : FCells (W.alloc (.cells #[x, y, z] t)) W.heap.size [x, y, z] := by
  apply cells3_mk <;> simp [go_sem]

end Go.Proofs.Ythaonpmmfennhaa

namespace Go.Proofs.Ythaonpmmfennhaa
open Go.RowKit
open FrMath (Hdr lb bd within Out ends cut Cut)

theorem enough_none (lim : Int) (b t : List UInt8) (he : (FrMath.look lim b).er = 0) (hlt : (b ++ t).length < (FrMath.look lim b).sz) : (Cut lim (b ++ t)).ms = [] := by
  have hE : ends lim (b ++ t) := by
    by_cases h' : (FrMath.look lim (b ++ t)).er = 0
    · exact Or.inr (Nat.lt_of_lt_of_le hlt (FrMath.look_mono lim b t he h'))
    · exact Or.inl h'
  rw [FrMath.Cut_end lim _ hE]
theorem Cut_nil (lim : Int) : Cut lim [] = ⟨[], 0, 0⟩ := FrMath.Cut_end lim [] (Or.inr (by simp [FrMath.look_nil]))
theorem enough_one (lim : Int) (b t : List UInt8) (he : (FrMath.look lim b).er = 0) (hm : (FrMath.look lim b).mi = 0) (hl : (b ++ t).length = (FrMath.look lim b).sz) : Cut lim (b ++ t) = ⟨[b ++ t], (FrMath.look lim b).sz, 0⟩ := by
  have hw := FrMath.look_whole lim b t hm
  have hE : ¬ ends lim (b ++ t) := by
    unfold FrMath.ends
    rw [hw, he, hl]
    simp
  rw [FrMath.Cut_on lim _ hE, hw, ← hl, List.take_length, List.drop_length, Cut_nil]
  rfl
theorem whole_mi (lim : Int) (b : List UInt8) (he : (FrMath.look lim b).er = 0) (h : 6 < b.length ∨ (1 < b.length ∧ lb b 1 < 128)) : (FrMath.look lim b).mi = 0 := by
  rcases h with h | ⟨h1, h2⟩
  · by_cases hz : (FrMath.look lim b).mi = 0
    · exact hz
    · have := ((FrMath.look_ok lim b he).2.2.2.1 hz).2
      omega
  · rcases FrMath.look_ways lim b with ⟨h0, e⟩ | ⟨_, _, e⟩ | ⟨h0, _, e⟩ | ⟨_, _, _, e⟩ | ⟨_, _, h4, e⟩ | ⟨_, _, h4, e⟩ | ⟨_, _, k, _, _, h4, e⟩
    · omega
    · rw [e] at he; cases he
    · omega
    · rw [e] at he ⊢; exact (FrMath.within_z _ _ _ he).1
    · omega
    · omega
    · omega
theorem ownS_len {w : World} {B : Nat} {v : Value} {l : List (List UInt8)} (h : OwnS w B v l) : ∃ a c, v = .slice a l.length c := by
  rcases ownS_form h with ⟨rfl, rfl⟩ | ⟨g, cap, rfl⟩
  · exact ⟨_, _, rfl⟩
  · exact ⟨_, _, rfl⟩

theorem ownS_one {w : World} {B g cap : Nat} {m : List UInt8} {l : List (List UInt8)} {Y : ByteArray} (h : OwnS w B (.slice (some ⟨g, 0, none⟩) (m :: l).length cap) (m :: l)) (hY : S m = Y) : w.cell? ⟨g, 0, none⟩ = some (.string Y) := by
  rw [ownS_cell h 0 (by simp), ← hY]
  rfl

end Go.Proofs.Ythaonpmmfennhaa

namespace Go.Proofs.Ythaonpmmfennhaa
open Go.RowKit
open FrMath (Hdr lb bd within Out ends cut Cut)

/-- A framer to which the bytes b have come. -/
structure FSt (fb : Nat) (lim : Int) (b : List UInt8) (v : Value) (W : World) (H : Nat) : Prop where
  ok : (Cut lim b).er = 0 → FCells W fb (frL lim (Cut lim b).at_ v (FrMath.look lim (b.drop (Cut lim b).at_))) ∧ FOwn W (fb + 1) v (b.drop (Cut lim b).at_) ∧ proper lim (b.drop (Cut lim b).at_)
  bad : (Cut lim b).er ≠ 0 → FCells W fb (frL lim (Cut lim b).at_ v ⟨0, 0, (Cut lim b).er⟩) ∧ FOwn W (fb + 1) v []
  high : ∀ x, v.ownBlock = some x → H ≤ x ∧ x < W.heap.size
theorem FSt.of {fb : Nat} {lim : Int} {b : List UInt8} {v : Value} {W W' : World} {H : Nat} (s : FSt fb lim b v W H) (hf : W'.heap[fb]? = W.heap[fb]?) (hv : ∀ x, v.ownBlock = some x → W'.heap[x]? = W.heap[x]?) (hs : W.heap.size ≤ W'.heap.size) : FSt fb lim b v W' H :=
  ⟨fun h => ⟨(s.ok h).1.of_block hf, fown_below (s.ok h).2.1 hv, (s.ok h).2.2⟩, fun h => ⟨(s.bad h).1.of_block hf, fown_below (s.bad h).2 hv⟩, fun x hx => ⟨(s.high x hx).1, Nat.lt_of_lt_of_le (s.high x hx).2 hs⟩⟩
theorem FSt.lt {fb : Nat} {lim : Int} {b : List UInt8} {v : Value} {W : World} {H : Nat} (s : FSt fb lim b v W H) : fb < W.heap.size := by
  by_cases h : (Cut lim b).er = 0
  · exact (s.ok h).1.lt
  · exact (s.bad h).1.lt
theorem cut_at_le (lim : Int) (b : List UInt8) : (Cut lim b).at_ ≤ b.length := (FrMath.cut_len lim (b.length + 1) b).2
theorem cut_ms_le (lim : Int) (b : List UInt8) : 2 * (Cut lim b).ms.length ≤ b.length := Nat.le_trans (FrMath.cut_len lim (b.length + 1) b).1 (FrMath.cut_len lim (b.length + 1) b).2

theorem feed_fst (fb : Nat) (lim : Int) (b c : List UInt8) (v : Value) (W : World) (H g cap : Nat) (s : FSt fb lim b v W H) (hH : H ≤ W.heap.size) (hgl : g < W.heap.size) (hgf : g ≠ fb) (hgv : v.ownBlock ≠ some g) (hck : Chk W g 0 c) (hcc : c.length ≤ cap) (hcap : cap ≤ 9223372036854775807) (hsz : b.length + c.length ≤ 67108864) :
    Calls Try.prog 7 #[.pointer (some ⟨fb, 0, none⟩), .slice (some ⟨g, 0, none⟩) c.length cap] W fun e w' => ∃ mv v' k, e = .returned (.tuple #[mv, .int .i64 ((Cut lim (b ++ c)).er : Int)]) ∧ OwnS w' W.heap.size mv k ∧ (Cut lim b).ms ++ k = (Cut lim (b ++ c)).ms ∧ FSt fb lim (b ++ c) v' w' H ∧ Fresh v v' W ∧ Kept fb v W w' ∧ (∀ x, v'.ownBlock = some x → mv.ownBlock ≠ some x) := by
  by_cases he : (Cut lim b).er = 0
  · obtain ⟨hC, ho, hp⟩ := s.ok he
    have hat := cut_at_le lim b
    have hl : (b.drop (Cut lim b).at_).length = b.length - (Cut lim b).at_ := List.length_drop
    have happ := Cut_ok_app lim b c he
    have hda : (b ++ c).drop (Cut lim b).at_ = b.drop (Cut lim b).at_ ++ c := List.drop_append_of_le_length hat
    refine (feed_any fb lim (Cut lim b).at_ v (b.drop (Cut lim b).at_) c W g 0 cap hC ho hp hgl hgf hgv hck hcc hcap (by omega) (by omega)).mono ?_
    rintro e w' ⟨mv, v', rfl, hms, hfr, hkp, hap, hok, hbad⟩
    refine ⟨mv, v', _, by rw [happ]; rfl, hms, by rw [happ]; rfl, ⟨fun h => ?_, fun h => ?_, fun x hx => ?_⟩, hfr, hkp, hap⟩
    · rw [happ] at h ⊢
      have := hok h
      show FCells w' fb (frL lim ((Cut lim b).at_ + _) v' (FrMath.look lim ((b ++ c).drop ((Cut lim b).at_ + _)))) ∧ FOwn w' (fb + 1) v' ((b ++ c).drop ((Cut lim b).at_ + _)) ∧ proper lim ((b ++ c).drop ((Cut lim b).at_ + _))
      rw [← List.drop_drop, hda]
      exact this
    · rw [happ] at h ⊢
      exact hbad h
    · have hlt : x < w'.heap.size := by
        by_cases h : (Cut lim (b.drop (Cut lim b).at_ ++ c)).er = 0
        · exact (own_lt (hok h).2.1 hx).2
        · exact (own_lt (hbad h).2 hx).2
      refine ⟨?_, hlt⟩
      rcases hfr with hfr | hfr
      · exact (s.high x (by rw [← hfr]; exact hx)).1
      · exact Nat.le_trans hH (hfr x hx)
  · obtain ⟨hC, ho⟩ := s.bad he
    have happ := Cut_er_app lim b c he
    refine (feedBad_any fb lim (Cut lim b).at_ (Cut lim b).er v _ W hC he).mono ?_
    rintro e w' ⟨rfl, n, rfl⟩
    refine ⟨_, v, [], by rw [happ], ownS_nil _ _, by rw [happ, List.append_nil], ?_, Fresh.refl _ _, ⟨below_drewN (Below.refl _ _) _, fun _ _ _ _ => rfl⟩, fun x _ hh => by cases hh⟩
    refine ⟨fun h => ?_, fun h => ?_, fun x hx => s.high x hx⟩
    · rw [happ] at h
      exact absurd h he
    · rw [happ]
      exact ⟨hC, ho⟩

/-- A text as bytes. -/
theorem conv_chk (w : World) (s : ByteArray) (hs : s.size ≤ 67108864) :
    ∃ W1 cap, (convert 9 32 (.string s)).run Try.prog w = .ok (.slice (some ⟨w.heap.size, 0, none⟩) s.size cap) W1 ∧ Below w.heap.size w W1 ∧ W1.heap.size = w.heap.size + 1 ∧ Chk W1 w.heap.size 0 s.data.toList ∧ s.size ≤ cap ∧ cap ≤ 9223372036854775807 := by
  have hrun := run_bytes_of_string w 9 32 5 s Try.underlying9 Try.underlying32 Try.underlying5
  obtain ⟨W1, cap, h1, h2, h3, h4⟩ := conv_bytes (P := Try.prog) w 9 32 5 s Try.underlying9 Try.underlying32 Try.underlying5
  refine ⟨W1, cap, h1, h2, h3, fun j hj => by rw [Nat.zero_add]; exact (h4 j hj).1, ?_, ?_⟩
  · rw [hrun] at h1
    injection h1 with h1 _
    injection h1 with _ _ h1
    rw [← h1]
    exact grownCap_ge w _ _ _
  · rw [hrun] at h1
    injection h1 with h1 _
    injection h1 with _ _ h1
    rw [← h1]
    have := grownCap_le_maxLen w s.size 0 5 (by unfold maxLen; omega)
    unfold maxLen at this
    omega

/-- The stream's first message. -/
theorem cut_first (lim : Int) (t : List UInt8) (h : 8 ≤ lim) : Cut lim ([48, 3, 2, 1, 5] ++ t) = FrMath.ahead [[48, 3, 2, 1, 5]] 5 (Cut lim t) := by
  refine cut_whole ?_
  show FrMath.within lim 0 5 = _
  unfold FrMath.within
  rw [if_neg (by omega)]
  rfl
end Go.Proofs.Ythaonpmmfennhaa
