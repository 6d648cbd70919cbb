import Derived.Test.YtddkefjcpgdomaaFrm4
import Derived.Laws.IdiomCopy
import Derived.Laws.StructEq
namespace Go.Proofs.Ytddkefjcpgdomaa
open Go.RowKit
open FrMath (Hdr lb bd within Out ends cut Cut)

/-- One text appended, in a walk. -/
theorem push_text (w : World) {ops : Array Oper} {rest : List Oper} {o : Oper} {a : Act} {Q : Exit → Act → World → Prop} (hgd : o.guard = none) (s x : Operand)
    (ho : o.op = .call { callee := .builtin .append, args := #[s, x], argTypes := #[23, 23] }) (B : Nat) (v : Value) (l : List (List UInt8)) (m : List UInt8) (g : Nat)
    (hs : a.eval s = v) (hx : a.eval x = .slice (some ⟨g, 0, none⟩) 1 1) (hown : OwnS w B v l) (hg : w.heap[g]? = some (.cells #[.string (S m)] 9 (0, 0))) (hB : B ≤ w.heap.size) (hl : l.length ≤ 4194304)
    (h : ∀ g' cap w', OwnS w' B (.slice (some ⟨g', 0, none⟩) (l.length + 1) cap) (l ++ [m]) → w.grownBy w' v.ownBlock → (v.ownBlock = some g' ∨ g' = w.heap.size) → Below B w w' → wpList Try.prog ops Q rest (a.put o.dst (.slice (some ⟨g', 0, none⟩) (l.length + 1) cap)) w') :
    wpList Try.prog ops Q (o :: rest) a w := by
  obtain ⟨i0, hi, hz0, hz1, hz2⟩ := info_parts info_str
  refine wpList_append_lies w hgd s x 23 ho B 9 i0 _ 1 16 Try.underlying23 hi hz0 hz1 hz2 rfl (by decide) v l.length (sv l) hs hown ⟨g, 0, none⟩ 1 1 [.string (S m)] hx rfl (World.news_of_block hg) (by intro u hu; simp at hu; subst hu; rfl) (by decide) (by unfold maxLen; omega) (by omega) hB w.heap.size rfl ?_
  intro g' cap w' h1 h2 h3 _
  refine h g' cap w' ?_ h2 h3 ?_
  · unfold OwnS
    rw [sv_snoc, List.length_append]
    exact h1
  · refine (Below.refl _ _).grown h2 hB ?_
    intro k hk
    exact (hown.lt _ hk).1

theorem w_sum (p n : Nat) (hp : p ≤ 4611686018427387904) (hn : n ≤ 1073741824) : wrap64 ((p : Int) + (n : Int)) = ((p + n : Nat) : Int) := by unfold wrap64; omega

set_option maxRecDepth 100000 in
set_option maxHeartbeats 400000 in
theorem give_any (fb : Nat) (lim : Int) (p : Nat) (v : Value) (r : List UInt8) (h : Hdr) (w : World) (hC : Cells w fb (frL lim p v h)) (hown : Own w (fb + 1) v r) (hp : p ≤ 1073741824) (hr : r.length ≤ 1073741824) :
    Calls Try.prog 28 #[.pointer (some ⟨fb, 0, none⟩)] w fun e w' => e = .returned (.string (S r)) ∧ ∃ v', v'.ownBlock = v.ownBlock ∧ Cells w' fb (frL lim (p + r.length) v' (FrMath.look lim [])) ∧ Own w' (fb + 1) v' [] ∧ Below fb w w' ∧ ∀ b, b < w.heap.size → b ≠ fb → w'.heap[b]? = w.heap[b]? := by
  obtain ⟨ad, n, cp, rfl⟩ := own_slice hown
  obtain ⟨hn, hnc⟩ := own_size hown
  obtain ⟨⟨c0, c1, c2, c3, c4, c5⟩, y1, y2, y3, y4, y5⟩ := cells6 hC
  have hfb : fb < w.heap.size := hC.lt
  have hcv := own_conv hown
  have hsz : (S r).size = n := by rw [S_size, hn]
  obtain ⟨wS, hwS⟩ : ∃ wS, (w.setCell ⟨fb, 1, none⟩ (.int .i64 ((p + n : Nat) : Int))).setCell ⟨fb, 2, none⟩ (.slice ad 0 cp) = wS := ⟨_, rfl⟩
  have hCS : Cells wS fb (frL lim (p + r.length) (.slice ad 0 cp) h) := by rw [← hwS, ← hn]; exact (hC.set 1 (by simp) _).set 2 (by simp) _
  have heS : ∀ b, b ≠ fb → wS.heap[b]? = w.heap[b]? := fun b hb => by rw [← hwS, Below.heap_setCell _ _ _ _ hb, Below.heap_setCell _ _ _ _ hb]
  have hownS : Own wS (fb + 1) (.slice ad 0 cp) [] := by
    have := own_take hown 0 (Nat.zero_le _)
    rw [List.take_zero] at this
    exact own_below this (fun g hg => heS g (by have := (own_lt this hg).1; omega))
  have hBS : Below fb w wS := by
    rw [← hwS]
    refine Below.setCell (Below.setCell (Below.refl _ _) ?_ _) ?_ _ <;> exact Nat.le_refl _
  have hLk : Hid (Calls Try.prog 33 #[.pointer (some ⟨fb, 0, none⟩)] wS fun e w' => e = .returned (.tuple #[]) ∧ Cells w' fb (frL lim (p + r.length) (.slice ad 0 cp) (FrMath.look lim [])) ∧ Below fb wS w' ∧ ∀ b, b < wS.heap.size → b ≠ fb → w'.heap[b]? = wS.heap[b]?) := fLook_any fb lim _ _ _ _ wS hCS hownS
  have hnS : Hid (wS.heap.size = w.heap.size) := by unfold Hid; rw [← hwS]; simp
  have hwS' : Hid ((w.setCell ⟨fb, 1, none⟩ (.int .i64 ((p + n : Nat) : Int))).setCell ⟨fb, 2, none⟩ (.slice ad 0 cp) = wS) := hwS
  have hcast : Hid ((p : Int) + (n : Int) = ((p + n : Nat) : Int)) := by unfold Hid; omega
  have hnr : n ≤ 1073741824 := by omega
  have hown' : Hid (Own wS (fb + 1) (.slice ad 0 cp) []) := hownS
  clear hCS hownS hwS hn hr hown
  go_enter Try.func28, Try.ntmps28
  go_wp2_with fail
  rw [hcast.out, hwS'.out]
  refine hLk.out.mono ?_
  rintro e w9 ⟨rfl, hC9, hB9, he9⟩
  go_wp2_with fail
  go_ret
  refine ⟨rfl, .slice ad 0 cp, ?_, hC9, own_below hown'.out (fun g hg => ?_), hBS.trans hB9, fun b hb hbn => ?_⟩
  · cases ad <;> rfl
  · have h1 := own_lt hown'.out hg
    exact he9 g h1.2 (by omega)
  · rw [he9 b (by rw [hnS.out]; exact hb) hbn, heS b hbn]
end Go.Proofs.Ytddkefjcpgdomaa
