import Derived.Test.YtgfonnjblbpogaaBCatch
import Derived.Shelf.Abstract
namespace Go.Proofs.Ytgfonnjblbpogaa
open Go.RowKit
open BerMath (Hd HR num hAt)

/-- Values that lie in a block's first cells and may be written. -/
def Cells (W : World) (b : Nat) (vs : List Value) : Prop := ∀ j (hj : j < vs.length), W.cell? ⟨b, j, none⟩ = some vs[j] ∧ W.frozen? ⟨b, j, none⟩ = false
theorem Cells.of_block {W W' : World} {b : Nat} {vs : List Value} (h : Cells W b vs) (e : W'.heap[b]? = W.heap[b]?) : Cells W' b vs := fun j hj => by
  rw [World.cell?_of_block (w := W) (w' := W') (a := ⟨b, j, none⟩) e, World.frozen?_of_block (w := W) (w' := W') (a := ⟨b, j, none⟩) e]
  exact h j hj

theorem Cells.set {W : World} {b : Nat} {vs : List Value} (h : Cells W b vs) (k : Nat) (hk : k < vs.length) (y : Value) : Cells (W.setCell ⟨b, k, none⟩ y) b (vs.set k y) := by
  intro j hj
  have hj' : j < vs.length := by simpa using hj
  rw [World.frozen?_setCell]
  refine ⟨?_, (h j hj').2⟩
  by_cases e : k = j
  · subst e
    rw [World.cell?_setCell_same W _ _ (h k hk).1]; simp
  · rw [World.cell?_setCell_other W _ _ _ (by intro hh; injection hh with _ h2 _; exact e h2), (h j hj').1]
    simp [e]

theorem all_any (s : ByteArray) (w : World) : Calls Try.prog 42 #[.string s] w fun r w' => r = .returned (strV s s.size 20) ∧ Below w.heap.size w w' := by
  go_enter Try.func42, Try.ntmps42
  go_wp2_with fail
  refine bodyPost_ret_by (v := strV s s.size 20) ?_ rfl ⟨rfl, ?_⟩
  · simp [results, Try.results42, go_sem]
  · repeat' first | exact Below.refl _ _ | refine Below.setCell ?_ (by simp) _ | refine Below.alloc ?_ (by simp) _ | refine Below.alloc ?_ (by simp; omega) _

def hdL (h : Hd) : List Value := [.int .i64 (h.cls : Int), .bool h.made, .int .i64 (h.tag : Int), .int .i64 (h.len : Int), .int .i64 (h.size : Int)]
def hdZ : List Value := [.int .i64 0, .bool false, .int .i64 0, .int .i64 0, .int .i64 0]

/-- What the reader of one header leaves. -/
def headQ (s : ByteArray) (ph : Nat) (w : World) (r : Ending) (w' : World) : Prop :=
  (∀ b, b < w.heap.size → b ≠ ph → w'.heap[b]? = w.heap[b]?) ∧ Below ph w w' ∧
  ((∃ h, hAt s.data.toList 0 s.size = .ok h ∧ r = .returned (.tuple #[]) ∧ Cells w' ph (hdL h)) ∨
   (∃ c q, headR s.data.toList 0 s.size 20 = gaveUp c q ∧ r = gaveUp c q ∧ Cells w' ph hdZ))

theorem head_cases (b : List UInt8) (p e : Nat) (m : Int) : (∃ h, hAt b p e = .ok h ∧ headR b p e m = .returned (hdV h)) ∨ (∃ c q, headR b p e m = gaveUp c q) := by
  unfold headR
  cases hAt b p e with
  | ok h => exact Or.inl ⟨h, rfl, rfl⟩
  | error o =>
    cases o with
    | some cq =>
      obtain ⟨c, q⟩ := cq
      exact Or.inr ⟨_, _, rfl⟩
    | none => exact Or.inr ⟨_, _, rfl⟩

set_option maxHeartbeats 1000000 in
theorem head1_any (s : ByteArray) (pb ph : Nat) (w : World) (hm : s.size ≤ 281474976710656) (hlt : ph < w.heap.size) (hpb : w.cell? ⟨pb, 0, none⟩ = some (.string s)) (hz : Cells w ph hdZ) :
    Calls Try.prog 41 #[.pointer (some ⟨pb, 0, none⟩), .pointer (some ⟨ph, 0, none⟩)] w fun r w' => headQ s ph w r w' := by
  go_enter Try.func41, Try.ntmps41
  go_wp2_with fail
  refine (all_any s w).mono ?_
  rintro r w1 ⟨rfl, hb1⟩
  go_wp2_with fail
  refine (header_any s s.size 0 20 w1 (Nat.le_refl _) hm (Nat.zero_le _)).mono ?_
  rintro r w2 ⟨rfl, hb2⟩
  have HB : Below w.heap.size w w2 := hb1.trans (hb2.mono hb1.size)
  have hz2 : Cells w2 ph hdZ := hz.of_block (HB.block ph hlt)
  rcases head_cases s.data.toList 0 s.size 20 with ⟨h, hk, hr⟩ | ⟨c, q, hr⟩
  · rw [hr]
    have c0 : w2.cell? ⟨ph, 0, none⟩ = some (.int .i64 0) := (hz2 0 (by decide)).1
    have c1 : w2.cell? ⟨ph, 1, none⟩ = some (.bool false) := (hz2 1 (by decide)).1
    have c2 : w2.cell? ⟨ph, 2, none⟩ = some (.int .i64 0) := (hz2 2 (by decide)).1
    have c3 : w2.cell? ⟨ph, 3, none⟩ = some (.int .i64 0) := (hz2 3 (by decide)).1
    have c4 : w2.cell? ⟨ph, 4, none⟩ = some (.int .i64 0) := (hz2 4 (by decide)).1
    have f0 : w2.frozen? ⟨ph, 0, none⟩ = false := (hz2 0 (by decide)).2
    have f1 : w2.frozen? ⟨ph, 1, none⟩ = false := (hz2 1 (by decide)).2
    have f2 : w2.frozen? ⟨ph, 2, none⟩ = false := (hz2 2 (by decide)).2
    have f3 : w2.frozen? ⟨ph, 3, none⟩ = false := (hz2 3 (by decide)).2
    have f4 : w2.frozen? ⟨ph, 4, none⟩ = false := (hz2 4 (by decide)).2
    have hC : Hid (Cells (((((w2.setCell ⟨ph, 0, none⟩ (.int .i64 (h.cls : Int))).setCell ⟨ph, 1, none⟩ (.bool h.made)).setCell ⟨ph, 2, none⟩ (.int .i64 (h.tag : Int))).setCell ⟨ph, 3, none⟩ (.int .i64 (h.len : Int))).setCell ⟨ph, 4, none⟩ (.int .i64 (h.size : Int))) ph (hdL h)) :=
      ((((hz2.set 0 (by simp [hdZ]) _).set 1 (by simp [hdZ]) _).set 2 (by simp [hdZ]) _).set 3 (by simp [hdZ]) _).set 4 (by simp [hdZ]) _
    have hO : Hid (∀ b, b < w.heap.size → b ≠ ph → (((((w2.setCell ⟨ph, 0, none⟩ (.int .i64 (h.cls : Int))).setCell ⟨ph, 1, none⟩ (.bool h.made)).setCell ⟨ph, 2, none⟩ (.int .i64 (h.tag : Int))).setCell ⟨ph, 3, none⟩ (.int .i64 (h.len : Int))).setCell ⟨ph, 4, none⟩ (.int .i64 (h.size : Int))).heap[b]? = w.heap[b]?) := fun b hb hne => by
      rw [Below.heap_setCell _ _ _ _ hne, Below.heap_setCell _ _ _ _ hne, Below.heap_setCell _ _ _ _ hne, Below.heap_setCell _ _ _ _ hne, Below.heap_setCell _ _ _ _ hne]
      exact HB.block b hb
    have hBB : Hid (Below ph w (((((w2.setCell ⟨ph, 0, none⟩ (.int .i64 (h.cls : Int))).setCell ⟨ph, 1, none⟩ (.bool h.made)).setCell ⟨ph, 2, none⟩ (.int .i64 (h.tag : Int))).setCell ⟨ph, 3, none⟩ (.int .i64 (h.len : Int))).setCell ⟨ph, 4, none⟩ (.int .i64 (h.size : Int)))) := by
      unfold Hid
      refine Below.setCell (Below.setCell (Below.setCell (Below.setCell (Below.setCell (HB.mono (Nat.le_of_lt hlt)) ?_ _) ?_ _) ?_ _) ?_ _) ?_ _ <;> exact Nat.le_refl _
    have hv : hdV h = .agg #[.int .i64 (h.cls : Int), .bool h.made, .int .i64 (h.tag : Int), .int .i64 (h.len : Int), .int .i64 (h.size : Int)] := rfl
    rw [hv]
    clear hz2 hv
    go_wp2_with fail
    go_end0
    exact ⟨hO.out, hBB.out, Or.inl ⟨h, hk, rfl, hC.out⟩⟩
  · rw [hr]
    exact ⟨rfl, fun b hb _ => HB.block b hb, HB.mono (Nat.le_of_lt hlt), Or.inr ⟨c, q, hr, rfl, hz2⟩⟩
end Go.Proofs.Ytgfonnjblbpogaa
