import Derived.Test.YtddkefjcpgdomaaFrm2
import Derived.Laws.CopyOwn
namespace Go.Proofs.Ytddkefjcpgdomaa
open Go.RowKit
open FrMath (Hdr lb bd within Out ends cut Cut)

/-- A part of a row of bytes that came in. -/
def Chk (W : World) (g off : Nat) (c : List UInt8) : Prop := ∀ j (hj : j < c.length), W.cell? ⟨g, off + j, none⟩ = some (.int .u8 (c[j].toNat : Int))

theorem Chk.of_block {W W' : World} {g off : Nat} {c : List UInt8} (h : Chk W g off c) (e : W'.heap[g]? = W.heap[g]?) : Chk W' g off c := fun j hj => by
  rw [World.cell?_of_block (w := W) (w' := W') (a := ⟨g, off + j, none⟩) e]
  exact h j hj
theorem add_off (b o j : Nat) : (⟨b, o, none⟩ : Addr).add j = ⟨b, o + j, none⟩ := by
  unfold Addr.add
  by_cases h : j = 0
  · subst h; rfl
  · simp [h]
theorem Chk.src {W : World} {g off : Nat} {c : List UInt8} (h : Chk W g off c) (q : Nat) (j : Nat) (v : Value) (hv : (bv (c.take q))[j]? = some v) : W.cell? ((⟨g, off, none⟩ : Addr).add j) = some v := by
  rw [add_off]
  have hlt : j < (bv (c.take q)).length := (List.getElem?_eq_some_iff.1 hv).1
  have hlc : j < c.length := by rw [bv_len, List.length_take] at hlt; omega
  rw [h j hlc]
  rw [List.getElem?_eq_getElem hlt] at hv
  rw [← hv]
  simp [bv]
theorem u8_one : (Try.prog.info? 5).map (·.size) = some 1 := by
  obtain ⟨i0, hi, _, hz1, _⟩ := info_parts info_u8
  rw [hi]
  simp [hz1]
/-- The row behind the copy. -/
theorem own_copied {W : World} {fb gG capG n q : Nat} {cur : Array Value} {r c : List UInt8} (hg : W.heap[gG]? = some (.cells cur 5 (0, 0))) (hn : n = r.length) (hrm : n + q ≤ capG) (hcx : capG ≤ maxLen) (hcs : cur.size = capG) (hct : cur.toList.take n = bv r) (hBg : fb + 1 ≤ gG) (hqc : q ≤ c.length) :
    Own (W.setRow gG (cur.toList.take n ++ bv (c.take q) ++ cur.toList.drop (n + (bv (c.take q)).length)).toArray) (fb + 1) (.slice (some ⟨gG, 0, none⟩) (n + q) capG) (r ++ c.take q) := by
  have hl : (r ++ c.take q).length = n + q := by rw [List.length_append, List.length_take]; omega
  have hlq : (bv (c.take q)).length = q := by rw [bv_len, List.length_take]; omega
  unfold Own
  rw [hl]
  refine ⟨by rw [bv_len, hl]; omega, Or.inr ⟨gG, capG, _, rfl, hBg, setRow_heap W gG _ _ _ _ hg, hrm, hcx, ?_, ?_⟩⟩
  · rw [hlq]
    simp
    rw [hlq]
    omega
  · rw [hct, bv_app, Nat.mul_one]
    show List.take (n + q) (bv r ++ bv (c.take q) ++ _) = _
    rw [List.take_left' (by rw [List.length_append, hlq, bv_len]; omega)]

theorem Chk.drop {W : World} {g off : Nat} {c : List UInt8} (h : Chk W g off c) (q : Nat) : Chk W g (off + q) (c.drop q) := fun j hj => by
  have hj' : q + j < c.length := by rw [List.length_drop] at hj; omega
  have := h (q + j) hj'
  rw [← Nat.add_assoc] at this
  rw [this, List.getElem_drop]
/-- What a framer's step may turn: its own variable and its own buffer. -/
def Kept (fb : Nat) (v : Value) (w w' : World) : Prop := Below fb w w' ∧ ∀ b, b < w.heap.size → b ≠ fb → v.ownBlock ≠ some b → w'.heap[b]? = w.heap[b]?
/-- Where a framer's buffer lies behind a step. -/
def Fresh (v v' : Value) (w : World) : Prop := v'.ownBlock = v.ownBlock ∨ ∀ b, v'.ownBlock = some b → w.heap.size ≤ b
/-- What take leaves. -/
def TakeQ (fb : Nat) (lim : Int) (p : Nat) (v : Value) (r : List UInt8) (w : World) (g : Nat) (c : List UInt8) (q : Nat) (e : Ending) (w' : World) : Prop :=
  ∃ off' cap' v', e = .returned (.slice (some ⟨g, off', none⟩) (c.length - q) cap') ∧ c.length - q ≤ cap' ∧ cap' ≤ 9223372036854775807 ∧ Chk w' g off' (c.drop q) ∧ Cells w' fb (frL lim p v' (FrMath.look lim (r ++ c.take q))) ∧ Own w' (fb + 1) v' (r ++ c.take q) ∧ Fresh v v' w ∧ Kept fb v w w'
end Go.Proofs.Ytddkefjcpgdomaa
