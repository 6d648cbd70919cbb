import Derived.Test.YthaonpmmfennhaaFX1
import Derived.Great.BuildSlice
import Derived.Lib.AppendStr
import Derived.BigQuiet
import Derived.Lib.AppendZerosOnto
import Derived.Lib.AppendZeros
import Derived.Laws.CopyOwn
namespace Go.Proofs.Ythaonpmmfennhaa
open Go.RowKit

/-- A value that is the call's own row of bytes. -/
def FOwn (W : World) (B : Nat) (v : Value) (l : List UInt8) : Prop := W.ownsRow B 5 1 v l.length (bv l)
/-- One byte appended to a row of the call's own. -/
theorem push_byte_at (w : World) {ops : Array Oper} {rest : List Oper} {o : Oper} {a : Act} {Q : Exit → Act → World → Prop} (hgd : o.guard = none) (s x : Operand)
    (ho : o.op = .call { callee := .builtin .append, args := #[s, x], argTypes := #[32, 32] }) (B : Nat) (v : Value) (l : List UInt8) (c : UInt8) (g : Nat)
    (hs : a.eval s = v) (hx : a.eval x = .slice (some ⟨g, 0, none⟩) 1 1) (hg : g = w.heap.size) (hown : FOwn w B v l) (hB : B ≤ w.heap.size) (hl : l.length ≤ 1099511627776)
    (h : ∀ v' w', FOwn w' B v' (l ++ [c]) → Below B w w' → wpList Try.prog ops Q rest (a.put o.dst v') w') :
    wpList Try.prog ops Q (o :: rest) a (w.alloc (.cells #[.int .u8 (c.toNat : Int)] 5)) := by
  subst hg
  obtain ⟨i0, hi, hz0, hz1, hz2⟩ := info_parts info_u8
  refine wpList_append_own _ hgd s x 32 ho B 5 i0 (.int .u8 0) 1 1 Try.underlying32 hi hz0 hz1 hz2 rfl (by decide) v l.length (bv l) hs (World.ownsRow.alloc hown _) ⟨w.heap.size, 0, none⟩ 1 1 [.int .u8 (c.toNat : Int)] hx rfl ?_ ?_ ?_ ?_ ?_ ?_
  · exact cell_one_new _ _ _
  · intro u hu; simp at hu; subst hu; rfl
  · unfold maxLen; omega
  · omega
  · simp; omega
  · intro v' w' h1 h2 _
    refine h v' w' ?_ ?_
    · unfold FOwn
      rw [bv_app, List.length_append]
      exact h1
    · refine ((Below.refl _ _).alloc hB _).grown h2 (by simp; omega) ?_
      intro k hk
      have := hown.lt _ hk
      exact this.1
theorem own_two (W : World) (B : Nat) (f g : UInt8) (hB : B ≤ W.heap.size) : FOwn (W.alloc (.cells #[.int .u8 (f.toNat : Int), .int .u8 (g.toNat : Int)] 5)) B (.slice (some ⟨W.heap.size, 0, none⟩) 2 2) [f, g] :=
  ⟨rfl, Or.inr ⟨W.heap.size, 2, #[.int .u8 (f.toNat : Int), .int .u8 (g.toNat : Int)], rfl, hB, heap_alloc_new W _, Nat.le_refl _, by unfold maxLen; omega, rfl, rfl⟩⟩
theorem own_conv {w : World} {B : Nat} {v : Value} {l : List UInt8} (h : FOwn w B v l) : (convert 32 9 v).run Try.prog w = .ok (.string (S l)) w :=
  own_back_any w B 32 9 5 v l.length l Try.underlying32 Try.underlying5 Try.underlying9 h
theorem own_slice {w : World} {B : Nat} {v : Value} {l : List UInt8} (h : FOwn w B v l) : ∃ a n c, v = .slice a n c := by
  rcases h.2 with ⟨rfl, hn⟩ | ⟨g, cap, cur, rfl, _⟩
  · exact ⟨_, _, _, rfl⟩
  · exact ⟨_, _, _, rfl⟩

/-- The bytes of a length up to 4096, by their places. -/
def bt (n j : Nat) : UInt8 := if j = 0 then UInt8.ofNat (n % 256) else if j = 1 then UInt8.ofNat (n / 256) else 0
def bs (n : Nat) : Nat → List UInt8
  | 0 => []
  | j + 1 => bt n j :: bs n j
theorem bs_len (n k : Nat) : (bs n k).length = k := by
  induction k with
  | zero => rfl
  | succ k ih => show (bt n k :: bs n k).length = _; simp [ih]
theorem u8_of (n : Nat) (h : n < 256) : (UInt8.ofNat n).toNat = n := by simp; omega
theorem bt0 (n : Nat) : IntKind.u8.wrap (n : Int) = ((bt n 0).toNat : Int) := by
  show (n : Int) % 256 = _
  unfold bt
  rw [if_pos rfl, u8_of _ (by omega)]
  omega
theorem bt1 (n : Nat) (h : n ≤ 4096) : IntKind.u8.wrap ((n : Int) / 256) = ((bt n 1).toNat : Int) := by
  show ((n : Int) / 256) % 256 = _
  unfold bt
  rw [if_neg (by omega), if_pos rfl, u8_of _ (by omega)]
  omega
/-- The header of a message with a body of n bytes: k further length bytes. -/
def hd (k n : Nat) : List UInt8 := if k = 0 then [48, UInt8.ofNat n] else 48 :: UInt8.ofNat (128 + k) :: bs n k
def okHd (k n : Nat) : Prop := k ≤ 4 ∧ (k = 0 → n ≤ 127) ∧ (k = 1 → n ≤ 255) ∧ n ≤ 4096
end Go.Proofs.Ythaonpmmfennhaa

namespace Go.Proofs.Ythaonpmmfennhaa
open Go.RowKit
open FrMath (Hdr lb bd within Out ends cut Cut)

theorem fown_below {w w' : World} {B : Nat} {v : Value} {l : List UInt8} (h : FOwn w B v l) (hb : ∀ g, v.ownBlock = some g → w'.heap[g]? = w.heap[g]?) : FOwn w' B v l := by
  rcases h with ⟨h1, ⟨rfl, h2⟩ | ⟨g, cap, cur, rfl, h3, h4, h5⟩⟩
  · exact ⟨h1, Or.inl ⟨rfl, h2⟩⟩
  · exact ⟨h1, Or.inr ⟨g, cap, cur, rfl, h3, by rw [hb g rfl]; exact h4, h5⟩⟩
theorem own_take {w : World} {B : Nat} {a : Option Addr} {n c : Nat} {l : List UInt8} (h : FOwn w B (.slice a n c) l) (k : Nat) (hk : k ≤ n) : FOwn w B (.slice a k c) (l.take k) := by
  have hn : n = l.length := by
    rcases h with ⟨_, ⟨hv, h2⟩ | ⟨g, cap, cur, hv, _⟩⟩
    · injection hv with _ h3 _; omega
    · injection hv with _ h3 _
  have hlk : (l.take k).length = k := by rw [List.length_take]; omega
  unfold FOwn
  rw [hlk]
  rcases h with ⟨h1, ⟨hv, h2⟩ | ⟨g, cap, cur, hv, h3, h4, h5, h6, h7, h8⟩⟩
  · injection hv with e1 e2 e3
    have : k = 0 := by omega
    subst this e1 e3
    exact ⟨by simp [bv], Or.inl ⟨rfl, rfl⟩⟩
  · injection hv with e1 e2 e3
    subst e1 e3
    refine ⟨by rw [bv_len, hlk]; omega, Or.inr ⟨g, c, cur, rfl, h3, h4, by omega, h6, h7, ?_⟩⟩
    rw [Nat.mul_one] at h8 ⊢
    have : bv (l.take k) = (bv l).take k := by simp [bv]
    rw [this, ← h8, List.take_take]
    congr 1
    omega
theorem own_size {w : World} {B : Nat} {a : Option Addr} {n c : Nat} {l : List UInt8} (h : FOwn w B (.slice a n c) l) : n = l.length ∧ n ≤ c := by
  rcases h with ⟨_, ⟨hv, h2⟩ | ⟨g, cap, cur, hv, _, _, h5, _⟩⟩
  · injection hv with _ h3 h4; omega
  · injection hv with _ h3 h4; omega
theorem own_lt {w : World} {B g : Nat} {v : Value} {l : List UInt8} (h : FOwn w B v l) (hg : v.ownBlock = some g) : B ≤ g ∧ g < w.heap.size := by
  rcases h with ⟨_, ⟨rfl, h2⟩ | ⟨g', cap, cur, rfl, h3, h4, _⟩⟩
  · cases hg
  · injection hg with hg
    subst hg
    refine ⟨h3, ?_⟩
    rcases Nat.lt_or_ge g' w.heap.size with h' | h'
    · exact h'
    · rw [Array.getElem?_eq_none h'] at h4; cases h4

/-- A framer's variable. -/
abbrev frL (lim : Int) (p : Nat) (v : Value) (h : Hdr) : List Value := [.int .i64 lim, .int .i64 (p : Int), v, .int .i64 (h.mi : Int), .int .i64 (h.sz : Int), .int .i64 (h.er : Int)]
theorem cells6 {W : World} {b : Nat} {x0 x1 x2 x3 x4 x5 : Value} (h : FCells W b [x0, x1, x2, x3, x4, x5]) :
    (W.cell? ⟨b, 0, none⟩ = some x0 ∧ W.cell? ⟨b, 1, none⟩ = some x1 ∧ W.cell? ⟨b, 2, none⟩ = some x2 ∧ W.cell? ⟨b, 3, none⟩ = some x3 ∧ W.cell? ⟨b, 4, none⟩ = some x4 ∧ W.cell? ⟨b, 5, none⟩ = some x5)
    ∧ (W.frozen? ⟨b, 1, none⟩ = false ∧ W.frozen? ⟨b, 2, none⟩ = false ∧ W.frozen? ⟨b, 3, none⟩ = false ∧ W.frozen? ⟨b, 4, none⟩ = false ∧ W.frozen? ⟨b, 5, none⟩ = false) :=
  ⟨⟨(h 0 (by simp)).1, (h 1 (by simp)).1, (h 2 (by simp)).1, (h 3 (by simp)).1, (h 4 (by simp)).1, (h 5 (by simp)).1⟩, (h 1 (by simp)).2, (h 2 (by simp)).2, (h 3 (by simp)).2, (h 4 (by simp)).2, (h 5 (by simp)).2⟩

/-- What a step of a framer leaves alone. -/
def Keeps (fb : Nat) (v : Value) (w w' : World) : Prop := Below fb w w' ∧ ∀ b, b < w.heap.size → b ≠ fb → v.ownBlock ≠ some b → w'.heap[b]? = w.heap[b]?

set_option maxRecDepth 100000 in
set_option maxHeartbeats 1000000 in
theorem fLook_any (fb : Nat) (lim : Int) (p : Nat) (v : Value) (r : List UInt8) (h0 : Hdr) (w : World) (hC : FCells w fb (frL lim p v h0)) (hown : FOwn w (fb + 1) v r) :
    Calls Try.prog 36 #[.pointer (some ⟨fb, 0, none⟩)] w fun e w' => e = .returned (.tuple #[]) ∧ FCells w' fb (frL lim p v (FrMath.look lim r)) ∧ Below fb w w' ∧ ∀ b, b < w.heap.size → b ≠ fb → w'.heap[b]? = w.heap[b]? := by
  obtain ⟨ad, n, c, rfl⟩ := own_slice hown
  obtain ⟨hn, hnc⟩ := own_size hown
  have hn' : Hid (n = r.length) := hn
  obtain ⟨⟨c0, c1, c2, c3, c4, c5⟩, y1, y2, y3, y4, y5⟩ := cells6 hC
  have hfb : fb < w.heap.size := hC.lt
  have hLk : ∀ W, Hid (Calls Try.prog 17 #[.int .i64 lim, .string (S (r.take 6))] W fun r' w' => r' = .returned (hV (FrMath.look lim r)) ∧ Below W.heap.size W w') := fun W => by
    have := look_any lim (S (r.take 6)) W (by rw [S_size, List.length_take]; omega)
    rw [S_l, FrMath.look_six] at this
    exact this
  generalize FrMath.look lim r = h at *
  obtain ⟨mi, sz, er⟩ := h
  obtain ⟨X, hX⟩ : ∃ X, S (r.take 6) = X := ⟨_, rfl⟩
  rw [hX] at hLk
  clear hn
  by_cases h6 : n ≤ 6
  · have hcvO : ∀ W, FOwn W (fb + 1) (.slice ad n c) r → (convert 32 9 (.slice ad n c)).run Try.prog W = .ok (.string X) W := fun W hW => by
      have := own_conv hW
      rw [← hX, List.take_of_length_le (by have := hn'.out; omega)]
      exact this
    have hcv := hcvO w.drew (World.ownsRow.drew hown)
    have d1 : (if (6 : Int) < (n : Int) then (6 : Int) else (n : Int)) = (n : Int) := if_neg (by omega)
    have n0 : (0 : Int) ≤ (n : Int) := by omega
    have n1 : (n : Int) ≤ (c : Int) := by omega
    clear hX
    go_enter Try.func36, Try.ntmps36
    refine wp_region_noPanic ?_
    refine wp_region_held_drew (S := fun W => W.cell? ⟨fb, 0, none⟩ = some (.int .i64 lim) ∧ W.cell? ⟨fb, 2, none⟩ = some (.slice ad n c) ∧ (convert 32 9 (.slice ad n c)).run Try.prog W = .ok (.string X) W) (by kernel_rfl) ⟨c0, c2, hcv⟩ (fun _ => ?_)
    refine wpAnyH_take (i := 0) (v := ?va1) (by simp only [List.getElem?_toArray, List.getElem?_cons_zero]; exact rfl) (by kernel_rfl) (by kernel_rfl) (by kernel_rfl) (fun _ _ _ h => h) (Or.inl ⟨by rfl, ?ya1⟩) ⟨c0, c2, hcv⟩ ?ra1
    case ya1 =>
      intro w' hS
      obtain ⟨s0, s2, s9⟩ := hS
      go_simp
      try with_reducible rfl
    case ra1 =>
    simp only [Act.put, List.setIfInBounds_toArray, List.set_cons_zero, List.set_cons_succ]
    refine wpAnyH_take (i := 1) (v := ?va2) (by simp only [List.getElem?_toArray, List.getElem?_cons_zero, List.getElem?_cons_succ]; exact rfl) (by kernel_rfl) (by kernel_rfl) (by kernel_rfl) (fun _ _ _ h => h) (Or.inl ⟨by rfl, ?ya2⟩) ⟨c0, c2, hcv⟩ ?ra2
    case ya2 =>
      intro w' hS
      obtain ⟨s0, s2, s9⟩ := hS
      go_simp
      try with_reducible rfl
    case ra2 =>
    simp only [Act.put, List.setIfInBounds_toArray, List.set_cons_zero, List.set_cons_succ]
    refine wpAnyH_take (i := 2) (v := ?va3) (by simp only [List.getElem?_toArray, List.getElem?_cons_zero, List.getElem?_cons_succ]; exact rfl) (by kernel_rfl) (by kernel_rfl) (by kernel_rfl) (fun _ _ _ h => h) (Or.inl ⟨by rfl, ?ya3⟩) ⟨c0, c2, hcv⟩ ?ra3
    case ya3 =>
      intro w' hS
      obtain ⟨s0, s2, s9⟩ := hS
      go_simp
      try with_reducible rfl
    case ra3 =>
    simp only [Act.put, List.setIfInBounds_toArray, List.set_cons_zero, List.set_cons_succ]
    refine wpAnyH_take (i := 3) (v := ?va4) (by simp only [List.getElem?_toArray, List.getElem?_cons_zero, List.getElem?_cons_succ]; exact rfl) (by kernel_rfl) (by kernel_rfl) (by kernel_rfl) (fun _ _ _ h => h) (Or.inl ⟨by rfl, ?ya4⟩) ⟨c0, c2, hcv⟩ ?ra4
    case ya4 =>
      intro w' hS
      obtain ⟨s0, s2, s9⟩ := hS
      go_simp
      try with_reducible rfl
    case ra4 =>
    simp only [Act.put, List.setIfInBounds_toArray, List.set_cons_zero, List.set_cons_succ]
    refine wpAnyH_take (i := 4) (v := ?va5) (by simp only [List.getElem?_toArray, List.getElem?_cons_zero, List.getElem?_cons_succ]; exact rfl) (by kernel_rfl) (by kernel_rfl) (by kernel_rfl) (fun _ _ _ h => h) (Or.inl ⟨by rfl, ?ya5⟩) ⟨c0, c2, hcv⟩ ?ra5
    case ya5 =>
      intro w' hS
      obtain ⟨s0, s2, s9⟩ := hS
      go_simp
      try with_reducible rfl
    case ra5 =>
    simp only [Act.put, List.setIfInBounds_toArray, List.set_cons_zero, List.set_cons_succ]
    refine wpAnyH_take (i := 5) (v := ?va6) (by simp only [List.getElem?_toArray, List.getElem?_cons_zero, List.getElem?_cons_succ]; exact rfl) (by kernel_rfl) (by kernel_rfl) (by kernel_rfl) (fun _ _ _ h => h) (Or.inl ⟨by rfl, ?ya6⟩) ⟨c0, c2, hcv⟩ ?ra6
    case ya6 =>
      intro w' hS
      obtain ⟨s0, s2, s9⟩ := hS
      go_simp
      try with_reducible rfl
    case ra6 =>
    simp only [Act.put, List.setIfInBounds_toArray, List.set_cons_zero, List.set_cons_succ]
    refine wpAnyH_take (i := 6) (v := ?va7) (by simp only [List.getElem?_toArray, List.getElem?_cons_zero, List.getElem?_cons_succ]; exact rfl) (by kernel_rfl) (by kernel_rfl) (by kernel_rfl) (fun _ _ _ h => h) (Or.inl ⟨by rfl, ?ya7⟩) ⟨c0, c2, hcv⟩ ?ra7
    case ya7 =>
      intro w' hS
      obtain ⟨s0, s2, s9⟩ := hS
      go_simp
      try with_reducible rfl
    case ra7 =>
    simp only [Act.put, List.setIfInBounds_toArray, List.set_cons_zero, List.set_cons_succ]
    refine wpAnyH_take (i := 7) (v := ?va8) (by simp only [List.getElem?_toArray, List.getElem?_cons_zero, List.getElem?_cons_succ]; exact rfl) (by kernel_rfl) (by kernel_rfl) (by kernel_rfl) (fun _ _ _ h => h) (Or.inl ⟨by rfl, ?ya8⟩) ⟨c0, c2, hcv⟩ ?ra8
    case ya8 =>
      intro w' hS
      obtain ⟨s0, s2, s9⟩ := hS
      go_simp
      try with_reducible rfl
    case ra8 =>
    simp only [Act.put, List.setIfInBounds_toArray, List.set_cons_zero, List.set_cons_succ]
    refine wpAnyH_take (i := 8) (v := ?va9) (by simp only [List.getElem?_toArray, List.getElem?_cons_zero, List.getElem?_cons_succ]; exact rfl) (by kernel_rfl) (by kernel_rfl) (by kernel_rfl) (fun _ _ _ h => h) (Or.inl ⟨by rfl, ?ya9⟩) ⟨c0, c2, hcv⟩ ?ra9
    case ya9 =>
      intro w' hS
      obtain ⟨s0, s2, s9⟩ := hS
      go_simp
      try with_reducible rfl
    case ra9 =>
    simp only [Act.put, List.setIfInBounds_toArray, List.set_cons_zero, List.set_cons_succ]
    refine wpAnyH_take (i := 9) (v := ?va10) (by simp only [List.getElem?_toArray, List.getElem?_cons_zero, List.getElem?_cons_succ]; exact rfl) (by kernel_rfl) (by kernel_rfl) (by kernel_rfl) (fun _ _ _ h => h) (Or.inl ⟨by rfl, ?ya10⟩) ⟨c0, c2, hcv⟩ ?ra10
    case ya10 =>
      intro w' hS
      obtain ⟨s0, s2, s9⟩ := hS
      go_simp
      try with_reducible rfl
    case ra10 =>
    simp only [Act.put, List.setIfInBounds_toArray, List.set_cons_zero, List.set_cons_succ]
    refine wpAnyH_take (i := 10) (v := ?va11) (by simp only [List.getElem?_toArray, List.getElem?_cons_zero, List.getElem?_cons_succ]; exact rfl) (by kernel_rfl) (by kernel_rfl) (by kernel_rfl) (fun _ _ _ h => h) (Or.inl ⟨by rfl, ?ya11⟩) ⟨c0, c2, hcv⟩ ?ra11
    case ya11 =>
      intro w' hS
      obtain ⟨s0, s2, s9⟩ := hS
      go_simp
      try with_reducible rfl
    case ra11 =>
    simp only [Act.put, List.setIfInBounds_toArray, List.set_cons_zero, List.set_cons_succ]
    refine wpAnyH_take (i := 11) (v := ?va12) (by simp only [List.getElem?_toArray, List.getElem?_cons_zero, List.getElem?_cons_succ]; exact rfl) (by kernel_rfl) (by kernel_rfl) (by kernel_rfl) (fun _ _ _ h => h) (Or.inl ⟨by rfl, ?ya12⟩) ⟨c0, c2, hcv⟩ ?ra12
    case ya12 =>
      intro w' hS
      obtain ⟨s0, s2, s9⟩ := hS
      go_simp
      try with_reducible rfl
    case ra12 =>
    simp only [Act.put, List.setIfInBounds_toArray, List.set_cons_zero, List.set_cons_succ]
    refine wpAnyH_take (i := 12) (v := ?va13) (by simp only [List.getElem?_toArray, List.getElem?_cons_zero, List.getElem?_cons_succ]; exact rfl) (by kernel_rfl) (by kernel_rfl) (by kernel_rfl) (fun _ _ _ h => h) (Or.inl ⟨by rfl, ?ya13⟩) ⟨c0, c2, hcv⟩ ?ra13
    case ya13 =>
      intro w' hS
      obtain ⟨s0, s2, s9⟩ := hS
      go_simp
      try with_reducible rfl
    case ra13 =>
    simp only [Act.put, List.setIfInBounds_toArray, List.set_cons_zero, List.set_cons_succ]
    refine wpAnyH_take (i := 13) (v := ?va14) (by simp only [List.getElem?_toArray, List.getElem?_cons_zero, List.getElem?_cons_succ]; exact rfl) (by kernel_rfl) (by kernel_rfl) (by kernel_rfl) (fun _ _ _ h => h) (Or.inl ⟨by rfl, ?ya14⟩) ⟨c0, c2, hcv⟩ ?ra14
    case ya14 =>
      intro w' hS
      obtain ⟨s0, s2, s9⟩ := hS
      go_simp
      try with_reducible rfl
    case ra14 =>
    simp only [Act.put, List.setIfInBounds_toArray, List.set_cons_zero, List.set_cons_succ]
    refine wpAnyH_take (i := 14) (v := ?va15) (by simp only [List.getElem?_toArray, List.getElem?_cons_zero, List.getElem?_cons_succ]; exact rfl) (by kernel_rfl) (by kernel_rfl) (by kernel_rfl) (fun _ _ _ h => h) (Or.inl ⟨by rfl, ?ya15⟩) ⟨c0, c2, hcv⟩ ?ra15
    case ya15 =>
      intro w' hS
      obtain ⟨s0, s2, s9⟩ := hS
      go_simp
      try with_reducible rfl
    case ra15 =>
    simp only [Act.put, List.setIfInBounds_toArray, List.set_cons_zero, List.set_cons_succ]
    refine wpAnyH_take (i := 15) (v := ?va16) (by simp only [List.getElem?_toArray, List.getElem?_cons_zero, List.getElem?_cons_succ]; exact rfl) (by kernel_rfl) (by kernel_rfl) (by kernel_rfl) (fun _ _ _ h => h) (Or.inl ⟨by rfl, ?ya16⟩) ⟨c0, c2, hcv⟩ ?ra16
    case ya16 =>
      intro w' hS
      obtain ⟨s0, s2, s9⟩ := hS
      go_simp
      try with_reducible rfl
    case ra16 =>
    simp only [Act.put, List.setIfInBounds_toArray, List.set_cons_zero, List.set_cons_succ]
    refine wpAnyH_take (i := 16) (v := ?va17) (by simp only [List.getElem?_toArray, List.getElem?_cons_zero, List.getElem?_cons_succ]; exact rfl) (by kernel_rfl) (by kernel_rfl) (by kernel_rfl) (fun _ _ _ h => h) (Or.inl ⟨by rfl, ?ya17⟩) ⟨c0, c2, hcv⟩ ?ra17
    case ya17 =>
      intro w' hS
      obtain ⟨s0, s2, s9⟩ := hS
      go_simp
      try with_reducible rfl
    case ra17 =>
    simp only [Act.put, List.setIfInBounds_toArray, List.set_cons_zero, List.set_cons_succ]
    refine wpAnyH_ready (rs := [17]) (by kernel_rfl) (by simp) ?_
    refine AllReadyH.cons (by simp only [List.getElem?_toArray, List.getElem?_cons_zero, List.getElem?_cons_succ]; exact rfl) (fun K hK => ?_) AllReadyH.nil
    go_simp
    refine (hLk _).out.mono ?_
    rintro r' w1 ⟨rfl, hb1⟩
    have hC1 : FCells w1 fb (frL lim p (.slice ad n c) h0) := hC.of_block (hb1.block fb hfb)
    obtain ⟨⟨q0, q1, q2, q3, q4, q5⟩, z1, z2, z3, z4, z5⟩ := cells6 hC1
    have hown1 : FOwn w1 (fb + 1) (.slice ad n c) r := fown_below hown (fun g hg => hb1.block g (own_lt hown hg).2)
    have hS1 : w1.cell? ⟨fb, 0, none⟩ = some (.int .i64 lim) ∧ w1.cell? ⟨fb, 2, none⟩ = some (.slice ad n c) ∧ (convert 32 9 (.slice ad n c)).run Try.prog w1 = .ok (.string X) w1 := ⟨q0, q2, hcvO _ hown1⟩
    go_simp
    refine hK.out _ _ hS1 (fun _ => ?_)
    clear hK K
    refine wpAnyH_take (i := 18) (v := ?va18) (by simp only [List.getElem?_toArray, List.getElem?_cons_zero, List.getElem?_cons_succ]; exact rfl) (by kernel_rfl) (by kernel_rfl) (by kernel_rfl) (fun _ _ _ h => h) (Or.inl ⟨by rfl, ?ya18⟩) hS1 ?ra18
    case ya18 =>
      intro w' hS
      obtain ⟨s0, s2, s9⟩ := hS
      go_simp
      try with_reducible rfl
    case ra18 =>
    simp only [Act.put, List.setIfInBounds_toArray, List.set_cons_zero, List.set_cons_succ]
    refine wpAnyH_take (i := 19) (v := ?va19) (by simp only [List.getElem?_toArray, List.getElem?_cons_zero, List.getElem?_cons_succ]; exact rfl) (by kernel_rfl) (by kernel_rfl) (by kernel_rfl) (fun _ _ _ h => h) (Or.inl ⟨by rfl, ?ya19⟩) hS1 ?ra19
    case ya19 =>
      intro w' hS
      obtain ⟨s0, s2, s9⟩ := hS
      go_simp
      try with_reducible rfl
    case ra19 =>
    simp only [Act.put, List.setIfInBounds_toArray, List.set_cons_zero, List.set_cons_succ]
    refine wpAnyH_ready (rs := [20]) (by kernel_rfl) (by simp) ?_
    refine AllReadyH.cons (by simp only [List.getElem?_toArray, List.getElem?_cons_zero, List.getElem?_cons_succ]; exact rfl) (fun K hK => ?_) AllReadyH.nil
    have hC2 : FCells (((w1.setCell ⟨fb, 3, none⟩ (.int .i64 (mi : Int))).setCell ⟨fb, 4, none⟩ (.int .i64 (sz : Int))).setCell ⟨fb, 5, none⟩ (.int .i64 (er : Int))) fb (frL lim p (.slice ad n c) ⟨mi, sz, er⟩) := ((hC1.set 3 (by simp) _).set 4 (by simp) _).set 5 (by simp) _
    have hown2 : FOwn (((w1.setCell ⟨fb, 3, none⟩ (.int .i64 (mi : Int))).setCell ⟨fb, 4, none⟩ (.int .i64 (sz : Int))).setCell ⟨fb, 5, none⟩ (.int .i64 (er : Int))) (fb + 1) (.slice ad n c) r := fown_below hown1 (fun g hg => by have hne := (own_lt hown1 hg).1; rw [Below.heap_setCell _ _ _ _ (by show g ≠ fb; omega), Below.heap_setCell _ _ _ _ (by show g ≠ fb; omega), Below.heap_setCell _ _ _ _ (by show g ≠ fb; omega)])
    obtain ⟨⟨u0, _, u2, _, _, _⟩, _⟩ := cells6 hC2
    have hB2 : Below fb w (((w1.setCell ⟨fb, 3, none⟩ (.int .i64 (mi : Int))).setCell ⟨fb, 4, none⟩ (.int .i64 (sz : Int))).setCell ⟨fb, 5, none⟩ (.int .i64 (er : Int))) := by
      refine Below.setCell (Below.setCell (Below.setCell (((Below.refl fb w).drew).trans (hb1.mono (Nat.le_of_lt hfb))) ?_ _) ?_ _) ?_ _ <;> exact Nat.le_refl _
    have hK2 : ∀ b, b < w.heap.size → b ≠ fb → (((w1.setCell ⟨fb, 3, none⟩ (.int .i64 (mi : Int))).setCell ⟨fb, 4, none⟩ (.int .i64 (sz : Int))).setCell ⟨fb, 5, none⟩ (.int .i64 (er : Int))).heap[b]? = w.heap[b]? := fun b hb hne => by
      rw [Below.heap_setCell _ _ _ _ (by show b ≠ fb; exact hne), Below.heap_setCell _ _ _ _ (by show b ≠ fb; exact hne), Below.heap_setCell _ _ _ _ (by show b ≠ fb; exact hne), hb1.block b hb]
      rfl
    go_simp
    refine hK.out _ _ ⟨u0, u2, hcvO _ hown2⟩ (fun _ => ?_)
    clear hK K
    refine wpAnyH_done (by kernel_rfl) ?_ _
    refine NoPanic.normal ?_
    clear hcvO hLk
    go_wp2_with fail
    go_end0
    exact ⟨rfl, hC2, hB2, hK2⟩
  · have hcvO : ∀ W, FOwn W (fb + 1) (.slice ad n c) r → (convert 32 9 (.slice ad 6 c)).run Try.prog W = .ok (.string X) W := fun W hW => by
      have := own_conv (own_take hW 6 (by omega))
      rw [← hX]
      exact this
    have hcv := hcvO w.drew (World.ownsRow.drew hown)
    have d1 : (if (6 : Int) < (n : Int) then (6 : Int) else (n : Int)) = 6 := if_pos (by omega)
    have n1 : (6 : Int) ≤ (c : Int) := by omega
    have n2 : 6 ≤ c := by omega
    clear hX
    go_enter Try.func36, Try.ntmps36
    refine wp_region_noPanic ?_
    refine wp_region_held_drew (S := fun W => W.cell? ⟨fb, 0, none⟩ = some (.int .i64 lim) ∧ W.cell? ⟨fb, 2, none⟩ = some (.slice ad n c) ∧ (convert 32 9 (.slice ad 6 c)).run Try.prog W = .ok (.string X) W) (by kernel_rfl) ⟨c0, c2, hcv⟩ (fun _ => ?_)
    refine wpAnyH_take (i := 0) (v := ?va20) (by simp only [List.getElem?_toArray, List.getElem?_cons_zero]; exact rfl) (by kernel_rfl) (by kernel_rfl) (by kernel_rfl) (fun _ _ _ h => h) (Or.inl ⟨by rfl, ?ya20⟩) ⟨c0, c2, hcv⟩ ?ra20
    case ya20 =>
      intro w' hS
      obtain ⟨s0, s2, s9⟩ := hS
      go_simp
      try with_reducible rfl
    case ra20 =>
    simp only [Act.put, List.setIfInBounds_toArray, List.set_cons_zero, List.set_cons_succ]
    refine wpAnyH_take (i := 1) (v := ?va21) (by simp only [List.getElem?_toArray, List.getElem?_cons_zero, List.getElem?_cons_succ]; exact rfl) (by kernel_rfl) (by kernel_rfl) (by kernel_rfl) (fun _ _ _ h => h) (Or.inl ⟨by rfl, ?ya21⟩) ⟨c0, c2, hcv⟩ ?ra21
    case ya21 =>
      intro w' hS
      obtain ⟨s0, s2, s9⟩ := hS
      go_simp
      try with_reducible rfl
    case ra21 =>
    simp only [Act.put, List.setIfInBounds_toArray, List.set_cons_zero, List.set_cons_succ]
    refine wpAnyH_take (i := 2) (v := ?va22) (by simp only [List.getElem?_toArray, List.getElem?_cons_zero, List.getElem?_cons_succ]; exact rfl) (by kernel_rfl) (by kernel_rfl) (by kernel_rfl) (fun _ _ _ h => h) (Or.inl ⟨by rfl, ?ya22⟩) ⟨c0, c2, hcv⟩ ?ra22
    case ya22 =>
      intro w' hS
      obtain ⟨s0, s2, s9⟩ := hS
      go_simp
      try with_reducible rfl
    case ra22 =>
    simp only [Act.put, List.setIfInBounds_toArray, List.set_cons_zero, List.set_cons_succ]
    refine wpAnyH_take (i := 3) (v := ?va23) (by simp only [List.getElem?_toArray, List.getElem?_cons_zero, List.getElem?_cons_succ]; exact rfl) (by kernel_rfl) (by kernel_rfl) (by kernel_rfl) (fun _ _ _ h => h) (Or.inl ⟨by rfl, ?ya23⟩) ⟨c0, c2, hcv⟩ ?ra23
    case ya23 =>
      intro w' hS
      obtain ⟨s0, s2, s9⟩ := hS
      go_simp
      try with_reducible rfl
    case ra23 =>
    simp only [Act.put, List.setIfInBounds_toArray, List.set_cons_zero, List.set_cons_succ]
    refine wpAnyH_take (i := 4) (v := ?va24) (by simp only [List.getElem?_toArray, List.getElem?_cons_zero, List.getElem?_cons_succ]; exact rfl) (by kernel_rfl) (by kernel_rfl) (by kernel_rfl) (fun _ _ _ h => h) (Or.inl ⟨by rfl, ?ya24⟩) ⟨c0, c2, hcv⟩ ?ra24
    case ya24 =>
      intro w' hS
      obtain ⟨s0, s2, s9⟩ := hS
      go_simp
      try with_reducible rfl
    case ra24 =>
    simp only [Act.put, List.setIfInBounds_toArray, List.set_cons_zero, List.set_cons_succ]
    refine wpAnyH_take (i := 5) (v := ?va25) (by simp only [List.getElem?_toArray, List.getElem?_cons_zero, List.getElem?_cons_succ]; exact rfl) (by kernel_rfl) (by kernel_rfl) (by kernel_rfl) (fun _ _ _ h => h) (Or.inl ⟨by rfl, ?ya25⟩) ⟨c0, c2, hcv⟩ ?ra25
    case ya25 =>
      intro w' hS
      obtain ⟨s0, s2, s9⟩ := hS
      go_simp
      try with_reducible rfl
    case ra25 =>
    simp only [Act.put, List.setIfInBounds_toArray, List.set_cons_zero, List.set_cons_succ]
    refine wpAnyH_take (i := 6) (v := ?va26) (by simp only [List.getElem?_toArray, List.getElem?_cons_zero, List.getElem?_cons_succ]; exact rfl) (by kernel_rfl) (by kernel_rfl) (by kernel_rfl) (fun _ _ _ h => h) (Or.inl ⟨by rfl, ?ya26⟩) ⟨c0, c2, hcv⟩ ?ra26
    case ya26 =>
      intro w' hS
      obtain ⟨s0, s2, s9⟩ := hS
      go_simp
      try with_reducible rfl
    case ra26 =>
    simp only [Act.put, List.setIfInBounds_toArray, List.set_cons_zero, List.set_cons_succ]
    refine wpAnyH_take (i := 7) (v := ?va27) (by simp only [List.getElem?_toArray, List.getElem?_cons_zero, List.getElem?_cons_succ]; exact rfl) (by kernel_rfl) (by kernel_rfl) (by kernel_rfl) (fun _ _ _ h => h) (Or.inl ⟨by rfl, ?ya27⟩) ⟨c0, c2, hcv⟩ ?ra27
    case ya27 =>
      intro w' hS
      obtain ⟨s0, s2, s9⟩ := hS
      go_simp
      try with_reducible rfl
    case ra27 =>
    simp only [Act.put, List.setIfInBounds_toArray, List.set_cons_zero, List.set_cons_succ]
    refine wpAnyH_take (i := 8) (v := ?va28) (by simp only [List.getElem?_toArray, List.getElem?_cons_zero, List.getElem?_cons_succ]; exact rfl) (by kernel_rfl) (by kernel_rfl) (by kernel_rfl) (fun _ _ _ h => h) (Or.inl ⟨by rfl, ?ya28⟩) ⟨c0, c2, hcv⟩ ?ra28
    case ya28 =>
      intro w' hS
      obtain ⟨s0, s2, s9⟩ := hS
      go_simp
      try with_reducible rfl
    case ra28 =>
    simp only [Act.put, List.setIfInBounds_toArray, List.set_cons_zero, List.set_cons_succ]
    refine wpAnyH_take (i := 9) (v := ?va29) (by simp only [List.getElem?_toArray, List.getElem?_cons_zero, List.getElem?_cons_succ]; exact rfl) (by kernel_rfl) (by kernel_rfl) (by kernel_rfl) (fun _ _ _ h => h) (Or.inl ⟨by rfl, ?ya29⟩) ⟨c0, c2, hcv⟩ ?ra29
    case ya29 =>
      intro w' hS
      obtain ⟨s0, s2, s9⟩ := hS
      go_simp
      try with_reducible rfl
    case ra29 =>
    simp only [Act.put, List.setIfInBounds_toArray, List.set_cons_zero, List.set_cons_succ]
    refine wpAnyH_take (i := 10) (v := ?va30) (by simp only [List.getElem?_toArray, List.getElem?_cons_zero, List.getElem?_cons_succ]; exact rfl) (by kernel_rfl) (by kernel_rfl) (by kernel_rfl) (fun _ _ _ h => h) (Or.inl ⟨by rfl, ?ya30⟩) ⟨c0, c2, hcv⟩ ?ra30
    case ya30 =>
      intro w' hS
      obtain ⟨s0, s2, s9⟩ := hS
      go_simp
      try with_reducible rfl
    case ra30 =>
    simp only [Act.put, List.setIfInBounds_toArray, List.set_cons_zero, List.set_cons_succ]
    refine wpAnyH_take (i := 11) (v := ?va31) (by simp only [List.getElem?_toArray, List.getElem?_cons_zero, List.getElem?_cons_succ]; exact rfl) (by kernel_rfl) (by kernel_rfl) (by kernel_rfl) (fun _ _ _ h => h) (Or.inl ⟨by rfl, ?ya31⟩) ⟨c0, c2, hcv⟩ ?ra31
    case ya31 =>
      intro w' hS
      obtain ⟨s0, s2, s9⟩ := hS
      go_simp
      try with_reducible rfl
    case ra31 =>
    simp only [Act.put, List.setIfInBounds_toArray, List.set_cons_zero, List.set_cons_succ]
    refine wpAnyH_take (i := 12) (v := ?va32) (by simp only [List.getElem?_toArray, List.getElem?_cons_zero, List.getElem?_cons_succ]; exact rfl) (by kernel_rfl) (by kernel_rfl) (by kernel_rfl) (fun _ _ _ h => h) (Or.inl ⟨by rfl, ?ya32⟩) ⟨c0, c2, hcv⟩ ?ra32
    case ya32 =>
      intro w' hS
      obtain ⟨s0, s2, s9⟩ := hS
      go_simp
      try with_reducible rfl
    case ra32 =>
    simp only [Act.put, List.setIfInBounds_toArray, List.set_cons_zero, List.set_cons_succ]
    refine wpAnyH_take (i := 13) (v := ?va33) (by simp only [List.getElem?_toArray, List.getElem?_cons_zero, List.getElem?_cons_succ]; exact rfl) (by kernel_rfl) (by kernel_rfl) (by kernel_rfl) (fun _ _ _ h => h) (Or.inl ⟨by rfl, ?ya33⟩) ⟨c0, c2, hcv⟩ ?ra33
    case ya33 =>
      intro w' hS
      obtain ⟨s0, s2, s9⟩ := hS
      go_simp
      try with_reducible rfl
    case ra33 =>
    simp only [Act.put, List.setIfInBounds_toArray, List.set_cons_zero, List.set_cons_succ]
    refine wpAnyH_take (i := 14) (v := ?va34) (by simp only [List.getElem?_toArray, List.getElem?_cons_zero, List.getElem?_cons_succ]; exact rfl) (by kernel_rfl) (by kernel_rfl) (by kernel_rfl) (fun _ _ _ h => h) (Or.inl ⟨by rfl, ?ya34⟩) ⟨c0, c2, hcv⟩ ?ra34
    case ya34 =>
      intro w' hS
      obtain ⟨s0, s2, s9⟩ := hS
      go_simp
      try with_reducible rfl
    case ra34 =>
    simp only [Act.put, List.setIfInBounds_toArray, List.set_cons_zero, List.set_cons_succ]
    refine wpAnyH_take (i := 15) (v := ?va35) (by simp only [List.getElem?_toArray, List.getElem?_cons_zero, List.getElem?_cons_succ]; exact rfl) (by kernel_rfl) (by kernel_rfl) (by kernel_rfl) (fun _ _ _ h => h) (Or.inl ⟨by rfl, ?ya35⟩) ⟨c0, c2, hcv⟩ ?ra35
    case ya35 =>
      intro w' hS
      obtain ⟨s0, s2, s9⟩ := hS
      go_simp
      try with_reducible rfl
    case ra35 =>
    simp only [Act.put, List.setIfInBounds_toArray, List.set_cons_zero, List.set_cons_succ]
    refine wpAnyH_take (i := 16) (v := ?va36) (by simp only [List.getElem?_toArray, List.getElem?_cons_zero, List.getElem?_cons_succ]; exact rfl) (by kernel_rfl) (by kernel_rfl) (by kernel_rfl) (fun _ _ _ h => h) (Or.inl ⟨by rfl, ?ya36⟩) ⟨c0, c2, hcv⟩ ?ra36
    case ya36 =>
      intro w' hS
      obtain ⟨s0, s2, s9⟩ := hS
      go_simp
      try with_reducible rfl
    case ra36 =>
    simp only [Act.put, List.setIfInBounds_toArray, List.set_cons_zero, List.set_cons_succ]
    refine wpAnyH_ready (rs := [17]) (by kernel_rfl) (by simp) ?_
    refine AllReadyH.cons (by simp only [List.getElem?_toArray, List.getElem?_cons_zero, List.getElem?_cons_succ]; exact rfl) (fun K hK => ?_) AllReadyH.nil
    go_simp
    refine (hLk _).out.mono ?_
    rintro r' w1 ⟨rfl, hb1⟩
    have hC1 : FCells w1 fb (frL lim p (.slice ad n c) h0) := hC.of_block (hb1.block fb hfb)
    obtain ⟨⟨q0, q1, q2, q3, q4, q5⟩, z1, z2, z3, z4, z5⟩ := cells6 hC1
    have hown1 : FOwn w1 (fb + 1) (.slice ad n c) r := fown_below hown (fun g hg => hb1.block g (own_lt hown hg).2)
    have hS1 : w1.cell? ⟨fb, 0, none⟩ = some (.int .i64 lim) ∧ w1.cell? ⟨fb, 2, none⟩ = some (.slice ad n c) ∧ (convert 32 9 (.slice ad 6 c)).run Try.prog w1 = .ok (.string X) w1 := ⟨q0, q2, hcvO _ hown1⟩
    go_simp
    refine hK.out _ _ hS1 (fun _ => ?_)
    clear hK K
    refine wpAnyH_take (i := 18) (v := ?va37) (by simp only [List.getElem?_toArray, List.getElem?_cons_zero, List.getElem?_cons_succ]; exact rfl) (by kernel_rfl) (by kernel_rfl) (by kernel_rfl) (fun _ _ _ h => h) (Or.inl ⟨by rfl, ?ya37⟩) hS1 ?ra37
    case ya37 =>
      intro w' hS
      obtain ⟨s0, s2, s9⟩ := hS
      go_simp
      try with_reducible rfl
    case ra37 =>
    simp only [Act.put, List.setIfInBounds_toArray, List.set_cons_zero, List.set_cons_succ]
    refine wpAnyH_take (i := 19) (v := ?va38) (by simp only [List.getElem?_toArray, List.getElem?_cons_zero, List.getElem?_cons_succ]; exact rfl) (by kernel_rfl) (by kernel_rfl) (by kernel_rfl) (fun _ _ _ h => h) (Or.inl ⟨by rfl, ?ya38⟩) hS1 ?ra38
    case ya38 =>
      intro w' hS
      obtain ⟨s0, s2, s9⟩ := hS
      go_simp
      try with_reducible rfl
    case ra38 =>
    simp only [Act.put, List.setIfInBounds_toArray, List.set_cons_zero, List.set_cons_succ]
    refine wpAnyH_ready (rs := [20]) (by kernel_rfl) (by simp) ?_
    refine AllReadyH.cons (by simp only [List.getElem?_toArray, List.getElem?_cons_zero, List.getElem?_cons_succ]; exact rfl) (fun K hK => ?_) AllReadyH.nil
    have hC2 : FCells (((w1.setCell ⟨fb, 3, none⟩ (.int .i64 (mi : Int))).setCell ⟨fb, 4, none⟩ (.int .i64 (sz : Int))).setCell ⟨fb, 5, none⟩ (.int .i64 (er : Int))) fb (frL lim p (.slice ad n c) ⟨mi, sz, er⟩) := ((hC1.set 3 (by simp) _).set 4 (by simp) _).set 5 (by simp) _
    have hown2 : FOwn (((w1.setCell ⟨fb, 3, none⟩ (.int .i64 (mi : Int))).setCell ⟨fb, 4, none⟩ (.int .i64 (sz : Int))).setCell ⟨fb, 5, none⟩ (.int .i64 (er : Int))) (fb + 1) (.slice ad n c) r := fown_below hown1 (fun g hg => by have hne := (own_lt hown1 hg).1; rw [Below.heap_setCell _ _ _ _ (by show g ≠ fb; omega), Below.heap_setCell _ _ _ _ (by show g ≠ fb; omega), Below.heap_setCell _ _ _ _ (by show g ≠ fb; omega)])
    obtain ⟨⟨u0, _, u2, _, _, _⟩, _⟩ := cells6 hC2
    have hB2 : Below fb w (((w1.setCell ⟨fb, 3, none⟩ (.int .i64 (mi : Int))).setCell ⟨fb, 4, none⟩ (.int .i64 (sz : Int))).setCell ⟨fb, 5, none⟩ (.int .i64 (er : Int))) := by
      refine Below.setCell (Below.setCell (Below.setCell (((Below.refl fb w).drew).trans (hb1.mono (Nat.le_of_lt hfb))) ?_ _) ?_ _) ?_ _ <;> exact Nat.le_refl _
    have hK2 : ∀ b, b < w.heap.size → b ≠ fb → (((w1.setCell ⟨fb, 3, none⟩ (.int .i64 (mi : Int))).setCell ⟨fb, 4, none⟩ (.int .i64 (sz : Int))).setCell ⟨fb, 5, none⟩ (.int .i64 (er : Int))).heap[b]? = w.heap[b]? := fun b hb hne => by
      rw [Below.heap_setCell _ _ _ _ (by show b ≠ fb; exact hne), Below.heap_setCell _ _ _ _ (by show b ≠ fb; exact hne), Below.heap_setCell _ _ _ _ (by show b ≠ fb; exact hne), hb1.block b hb]
      rfl
    go_simp
    refine hK.out _ _ ⟨u0, u2, hcvO _ hown2⟩ (fun _ => ?_)
    clear hK K
    refine wpAnyH_done (by kernel_rfl) ?_ _
    refine NoPanic.normal ?_
    clear hcvO hLk
    go_wp2_with fail
    go_end0
    exact ⟨rfl, hC2, hB2, hK2⟩
end Go.Proofs.Ythaonpmmfennhaa

namespace Go.Proofs.Ythaonpmmfennhaa
open Go.RowKit
open FrMath (Hdr lb bd within Out ends cut Cut)

/-- What slices.Grow leaves: a row with room. -/
def GrowQ (B : Nat) (v : Value) (r : List UInt8) (n : Nat) (w : World) (e : Ending) (w' : World) : Prop :=
  ∃ g cap cur, e = .returned (.slice (some ⟨g, 0, none⟩) r.length cap) ∧ w'.heap[g]? = some (.cells cur 5 (0, 0)) ∧ r.length + n ≤ cap ∧ cap ≤ maxLen ∧ cur.size = cap ∧ cur.toList.take r.length = bv r ∧ B ≤ g ∧ (v.ownBlock = some g ∨ w.heap.size ≤ g) ∧ Below w.heap.size w w'

theorem grow_room (a : Option Addr) (l c n : Nat) (w : World) (hroom : l + n ≤ c) (hc : c ≤ 9223372036854775807) :
    Calls Try.prog 35 #[.slice a l c, .int .i64 (n : Int)] w fun e w' => e = .returned (.slice a l c) ∧ w = w' := by
  have h1 : ¬ ((n : Int) < 0) := by omega
  have h2 : wrap64 ((c : Int) - (l : Int)) = (c : Int) - (l : Int) := by unfold wrap64; omega
  have h3 : wrap64 ((n : Int) - ((c : Int) - (l : Int))) = (n : Int) - ((c : Int) - (l : Int)) := by unfold wrap64; omega
  have h4 : ¬ (0 < (n : Int) - ((c : Int) - (l : Int))) := by omega
  go_enter Try.func35, Try.ntmps35
  go_wp2
  go_ret
  exact ⟨rfl, rfl⟩

theorem grow_grow (a : Option Addr) (l c n : Nat) (cs : List Value) (w : World) (hlc : l ≤ c) (hroom : c < l + n) (hbig : l + n ≤ 1099511627776) (hcl : cs.length = c) (hnil : a = none → c = 0)
    (hcs : ∀ d, a = some d → ∀ j v, cs[j]? = some v → w.cell? (d.add j) = some v) :
    Calls Try.prog 35 #[.slice a l c, .int .i64 (n : Int)] w fun e w' => ∃ G, l + n ≤ G ∧ G ≤ maxLen ∧ e = .returned (.slice (some ⟨w.heap.size, 0, none⟩) l G) ∧
      w' = w.drew.alloc (.cells (cs.toArray ++ Builtin.zeroCells #[.int .u8 0] (l + n - c) ++ Builtin.zeroCells #[.int .u8 0] (G - (l + n))) 5) := by
  obtain ⟨i0, hi, hz0, hz1, hz2⟩ := info_parts info_u8
  have h1 : ¬ ((n : Int) < 0) := by omega
  have h2 : wrap64 ((c : Int) - (l : Int)) = (c : Int) - (l : Int) := by unfold wrap64; omega
  have h3 : wrap64 ((n : Int) - ((c : Int) - (l : Int))) = (n : Int) - ((c : Int) - (l : Int)) := by unfold wrap64; omega
  have h4 : 0 < (n : Int) - ((c : Int) - (l : Int)) := by omega
  have hck : c + (l + n - c) = l + n := by omega
  have hold : (Builtin.firstCells i0.size c (.slice a c c)).run Try.prog w.drew = .ok cs.toArray w.drew := by
    cases a with
    | none =>
      have h0 := hnil rfl
      subst h0
      have hc0 : cs = [] := List.length_eq_zero_iff.1 hcl
      rw [hc0]
      exact run_firstCells_none w.drew i0.size 0 0 0
    | some d => exact run_firstCells_some w.drew i0.size c d c c cs (by rw [hz1, hcl]; omega) (fun j v hj => hcs d rfl j v hj)
  have hrz : ∀ ty, (Builtin.append_ #[32, 3] ty #[.slice a c c, .int .i64 ((n : Int) - ((c : Int) - (l : Int)))]).run Try.prog w =
      .ok (.slice (some ⟨w.heap.size, 0, none⟩) (l + n) (grownCap w (l + n) c 5)) (w.drew.alloc (.cells (cs.toArray ++ Builtin.zeroCells #[.int .u8 0] (l + n - c) ++ Builtin.zeroCells #[.int .u8 0] (grownCap w (l + n) c 5 - (l + n))) 5)) := fun ty => by
    have h := Lib.run_append_grow_zeros w 32 3 ty 5 i0 (.int .u8 0) .i64 .i64 Try.underlying32 Try.underlying3 hi hz0 a c c cs hold (l + n - c) (by omega) (by omega) (by omega) (by omega)
      (by rw [hz2]; omega) (by rw [hck]; exact growslice_fits hroom (by rw [hz2]; omega))
    rw [hck] at h
    rw [show (n : Int) - ((c : Int) - (l : Int)) = ((l + n - c : Nat) : Int) by omega]
    exact h
  have hGn : l + n ≤ grownCap w (l + n) c 5 := grownCap_ge w _ _ _
  have hGm : grownCap w (l + n) c 5 ≤ maxLen := grownCap_le_maxLen w (l + n) c 5 (by unfold maxLen; omega)
  generalize grownCap w (l + n) c 5 = G at *
  have hG63 : G ≤ 9223372036854775807 := by unfold maxLen at hGm; omega
  have hGm' : Hid (G ≤ maxLen) := hGm
  clear hold hck hcs hcl hGm hi hz0 hz1 hz2
  cases a with
  | none =>
    have h0 := hnil rfl
    subst h0
    obtain rfl : l = 0 := by omega
    go_enter Try.func35, Try.ntmps35
    go_wp2_with (at_builtin; refine Lib.wpList_append_run _ rfl _ _ _ _ rfl _ _ rfl rfl _ _ (hrz _) ?_)
    all_goals
      go_ret
      exact ⟨G, by omega, hGm'.out, rfl, by first | rfl | simp⟩
  | some d =>
    obtain ⟨db, dof, dsp⟩ := d
    go_enter Try.func35, Try.ntmps35
    go_wp2_with (at_builtin; refine Lib.wpList_append_run _ rfl _ _ _ _ rfl _ _ rfl rfl _ _ (hrz _) ?_)
    all_goals
      go_ret
      exact ⟨G, hGn, hGm'.out, rfl, rfl⟩

theorem grow_any (B : Nat) (v : Value) (r : List UInt8) (n : Nat) (w : World) (hown : FOwn w B v r) (hB : B ≤ w.heap.size) (h1 : 1 ≤ n) (hsz : r.length + n ≤ 1099511627776) :
    Calls Try.prog 35 #[v, .int .i64 (n : Int)] w fun e w' => GrowQ B v r n w e w' := by
  rcases hown with ⟨hx, ⟨rfl, h0⟩ | ⟨g, cap, cur, rfl, h3, h4, h5, h6, h7, h8⟩⟩
  · have hr : r = [] := List.eq_nil_of_length_eq_zero h0
    subst hr
    refine (grow_grow none 0 0 n [] w (Nat.le_refl _) (by omega) (by simpa using hsz) rfl (fun _ => rfl) (fun d hd => by cases hd)).mono ?_
    rintro e w' ⟨G, hG1, hG2, rfl, rfl⟩
    refine ⟨w.heap.size, G, _, rfl, heap_alloc_new w.drew _, by simpa using hG1, hG2, ?_, by simp [bv], hB, Or.inr (Nat.le_refl _), ((Below.refl _ _).drew).alloc (by simp) _⟩
    simp [size_zeroCells]
    omega
  · rw [Nat.mul_one] at h7 h8
    by_cases hroom : r.length + n ≤ cap
    · refine (grow_room _ _ _ _ w hroom (by unfold maxLen at h6; omega)).mono ?_
      rintro e w' ⟨rfl, rfl⟩
      exact ⟨g, cap, cur, rfl, h4, hroom, h6, h7, h8, h3, Or.inl rfl, Below.refl _ _⟩
    · refine (grow_grow (some ⟨g, 0, none⟩) r.length cap n cur.toList w h5 (by omega) hsz (by simpa using h7) (fun hd => by cases hd) ?_).mono ?_
      · intro d hd j x hj
        injection hd with hd
        subst hd
        rw [add_j]
        unfold World.cell?
        rw [h4]
        simpa using hj
      · rintro e w' ⟨G, hG1, hG2, rfl, rfl⟩
        refine ⟨w.heap.size, G, _, rfl, heap_alloc_new w.drew _, hG1, hG2, ?_, ?_, hB, Or.inr (Nat.le_refl _), ((Below.refl _ _).drew).alloc (by simp) _⟩
        · simp [size_zeroCells]
          omega
        · rw [Array.toList_append, Array.toList_append, List.append_assoc, List.take_append_of_le_length (by simp; omega)]
          simpa using h8
end Go.Proofs.Ythaonpmmfennhaa

namespace Go.Proofs.Ythaonpmmfennhaa
open Go.RowKit
open FrMath (Hdr lb bd within Out ends cut Cut)

/-- A part of a row of bytes that came in. -/
def Chk (W : World) (g off : Nat) (c : List UInt8) : Prop := ∀ j (hj : j < c.length), W.cell? ⟨g, off + j, none⟩ = some (.int .u8 (c[j].toNat : Int))

theorem Chk.of_block {W W' : World} {g off : Nat} {c : List UInt8} (h : Chk W g off c) (e : W'.heap[g]? = W.heap[g]?) : Chk W' g off c := fun j hj => by
  rw [World.cell?_of_block (w := W) (w' := W') (a := ⟨g, off + j, none⟩) e]
  exact h j hj
theorem add_off (b o j : Nat) : (⟨b, o, none⟩ : Addr).add j = ⟨b, o + j, none⟩ := by
  unfold Addr.add
  by_cases h : j = 0
  · subst h; rfl
  · simp [h]
theorem Chk.src {W : World} {g off : Nat} {c : List UInt8} (h : Chk W g off c) (q : Nat) (j : Nat) (v : Value) (hv : (bv (c.take q))[j]? = some v) : W.cell? ((⟨g, off, none⟩ : Addr).add j) = some v := by
  rw [add_off]
  have hlt : j < (bv (c.take q)).length := (List.getElem?_eq_some_iff.1 hv).1
  have hlc : j < c.length := by rw [bv_len, List.length_take] at hlt; omega
  rw [h j hlc]
  rw [List.getElem?_eq_getElem hlt] at hv
  rw [← hv]
  simp [bv]
theorem u8_one : (Try.prog.info? 5).map (·.size) = some 1 := by
  obtain ⟨i0, hi, _, hz1, _⟩ := info_parts info_u8
  rw [hi]
  simp [hz1]
/-- The row behind the copy. -/
theorem own_copied {W : World} {fb gG capG n q : Nat} {cur : Array Value} {r c : List UInt8} (hg : W.heap[gG]? = some (.cells cur 5 (0, 0))) (hn : n = r.length) (hrm : n + q ≤ capG) (hcx : capG ≤ maxLen) (hcs : cur.size = capG) (hct : cur.toList.take n = bv r) (hBg : fb + 1 ≤ gG) (hqc : q ≤ c.length) :
    FOwn (W.setRow gG (cur.toList.take n ++ bv (c.take q) ++ cur.toList.drop (n + (bv (c.take q)).length)).toArray) (fb + 1) (.slice (some ⟨gG, 0, none⟩) (n + q) capG) (r ++ c.take q) := by
  have hl : (r ++ c.take q).length = n + q := by rw [List.length_append, List.length_take]; omega
  have hlq : (bv (c.take q)).length = q := by rw [bv_len, List.length_take]; omega
  unfold FOwn
  rw [hl]
  refine ⟨by rw [bv_len, hl]; omega, Or.inr ⟨gG, capG, _, rfl, hBg, setRow_heap W gG _ _ _ _ hg, hrm, hcx, ?_, ?_⟩⟩
  · rw [hlq]
    simp
    rw [hlq]
    omega
  · rw [hct, bv_app, Nat.mul_one]
    show List.take (n + q) (bv r ++ bv (c.take q) ++ _) = _
    rw [List.take_left' (by rw [List.length_append, hlq, bv_len]; omega)]

theorem Chk.drop {W : World} {g off : Nat} {c : List UInt8} (h : Chk W g off c) (q : Nat) : Chk W g (off + q) (c.drop q) := fun j hj => by
  have hj' : q + j < c.length := by rw [List.length_drop] at hj; omega
  have := h (q + j) hj'
  rw [← Nat.add_assoc] at this
  rw [this, List.getElem_drop]
/-- What a framer's step may turn: its own variable and its own buffer. -/
def Kept (fb : Nat) (v : Value) (w w' : World) : Prop := Below fb w w' ∧ ∀ b, b < w.heap.size → b ≠ fb → v.ownBlock ≠ some b → w'.heap[b]? = w.heap[b]?
/-- Where a framer's buffer lies behind a step. -/
def Fresh (v v' : Value) (w : World) : Prop := v'.ownBlock = v.ownBlock ∨ ∀ b, v'.ownBlock = some b → w.heap.size ≤ b
/-- What take leaves. -/
def TakeQ (fb : Nat) (lim : Int) (p : Nat) (v : Value) (r : List UInt8) (w : World) (g : Nat) (c : List UInt8) (q : Nat) (e : Ending) (w' : World) : Prop :=
  ∃ off' cap' v', e = .returned (.slice (some ⟨g, off', none⟩) (c.length - q) cap') ∧ c.length - q ≤ cap' ∧ cap' ≤ 9223372036854775807 ∧ Chk w' g off' (c.drop q) ∧ FCells w' fb (frL lim p v' (FrMath.look lim (r ++ c.take q))) ∧ FOwn w' (fb + 1) v' (r ++ c.take q) ∧ Fresh v v' w ∧ Kept fb v w w'
end Go.Proofs.Ythaonpmmfennhaa

namespace Go.Proofs.Ythaonpmmfennhaa
open Go.RowKit
open FrMath (Hdr lb bd within Out ends cut Cut)

set_option maxRecDepth 100000 in
set_option maxHeartbeats 1000000 in
theorem take_any (fb : Nat) (lim : Int) (p : Nat) (v : Value) (r : List UInt8) (h : Hdr) (w : World) (g off cap : Nat) (c : List UInt8) (m q : Nat)
    (hC : FCells w fb (frL lim p v h)) (hown : FOwn w (fb + 1) v r) (hm : m = if h.mi = 0 then h.sz - r.length else h.mi) (hq : q = if c.length < m then c.length else m) (q1 : 1 ≤ q)
    (hgl : g < w.heap.size) (hgf : g ≠ fb) (hgv : v.ownBlock ≠ some g) (hck : Chk w g off c) (hcc : c.length ≤ cap) (hcap : cap ≤ 9223372036854775807) (hsz : r.length + c.length ≤ 1073741824) (hhz : h.sz ≤ 4294967302) (hmz : h.mi ≤ 4) :
    Calls Try.prog 19 #[.pointer (some ⟨fb, 0, none⟩), .slice (some ⟨g, off, none⟩) c.length cap] w fun e w' => TakeQ fb lim p v r w g c q e w' := by
  obtain ⟨ad, n, cp, rfl⟩ := own_slice hown
  obtain ⟨hn, hnc⟩ := own_size hown
  obtain ⟨⟨c0, c1, c2, c3, c4, c5⟩, y1, y2, y3, y4, y5⟩ := cells6 hC
  have hfb : fb < w.heap.size := hC.lt
  have hn' : Hid (n = r.length) := hn
  have hqc : q ≤ c.length := by rw [hq]; split <;> omega
  generalize hcl : c.length = cl at *
  have hcl' : Hid (c.length = cl) := hcl
  obtain ⟨mi, sz, er⟩ := h
  simp only at hm hhz hmz c3 c4 c5
  have hqcap : q ≤ cap := by omega
  by_cases hmi : mi = 0
  · rw [if_pos hmi] at hm
    subst hmi
    have hN : ∀ W, Hid (Calls Try.prog 28 #[hdr 0 sz er, .int .i64 (n : Int)] W fun r' w' => r' = .returned (.int .i64 (m : Int)) ∧ w' = W.alloc (hO 0 sz er)) := fun W => by
      have := need_any 0 sz er n W (by omega) (by omega)
      rw [hm, ← hn]
      exact this
    have d1 : (if (cl : Int) < (m : Int) then (cl : Int) else (m : Int)) = (q : Int) := by rw [hq]; split <;> split <;> omega
    have d2 : (if cl < m then (cl : Int) else (m : Int)) = (q : Int) := by rw [hq]; split <;> omega
    clear hn hm hq hcl
    go_enter Try.func19, Try.ntmps19
    go_wp2_with fail
    refine wp_region_noPanic ?_
    refine wp_region_held_drew (S := fun W => W.cell? ⟨fb, 2, none⟩ = some (.slice ad n cp) ∧ W.cell? ⟨fb, 3, none⟩ = some (.int .i64 0) ∧ W.cell? ⟨fb, 4, none⟩ = some (.int .i64 (sz : Int)) ∧ W.cell? ⟨fb, 5, none⟩ = some (.int .i64 (er : Int))) (by kernel_rfl) ⟨c2, c3, c4, c5⟩ (fun _ => ?_)
    refine wpAnyH_take (i := 0) (v := ?va1) (by simp only [List.getElem?_toArray, List.getElem?_cons_zero]; exact rfl) (by kernel_rfl) (by kernel_rfl) (by kernel_rfl) (fun _ _ _ h => h) (Or.inl ⟨by rfl, ?ya1⟩) ⟨c2, c3, c4, c5⟩ ?ra1
    case ya1 =>
      intro w' hS
      obtain ⟨s2, s3, s4, s5⟩ := hS
      go_simp
      try with_reducible rfl
    case ra1 =>
    simp only [Act.put, List.setIfInBounds_toArray, List.set_cons_zero, List.set_cons_succ]
    refine wpAnyH_take (i := 1) (v := ?va2) (by simp only [List.getElem?_toArray, List.getElem?_cons_zero, List.getElem?_cons_succ]; exact rfl) (by kernel_rfl) (by kernel_rfl) (by kernel_rfl) (fun _ _ _ h => h) (Or.inl ⟨by rfl, ?ya2⟩) ⟨c2, c3, c4, c5⟩ ?ra2
    case ya2 =>
      intro w' hS
      obtain ⟨s2, s3, s4, s5⟩ := hS
      go_simp
      try with_reducible rfl
    case ra2 =>
    simp only [Act.put, List.setIfInBounds_toArray, List.set_cons_zero, List.set_cons_succ]
    refine wpAnyH_take (i := 2) (v := ?va3) (by simp only [List.getElem?_toArray, List.getElem?_cons_zero, List.getElem?_cons_succ]; exact rfl) (by kernel_rfl) (by kernel_rfl) (by kernel_rfl) (fun _ _ _ h => h) (Or.inl ⟨by rfl, ?ya3⟩) ⟨c2, c3, c4, c5⟩ ?ra3
    case ya3 =>
      intro w' hS
      obtain ⟨s2, s3, s4, s5⟩ := hS
      go_simp
      try with_reducible rfl
    case ra3 =>
    simp only [Act.put, List.setIfInBounds_toArray, List.set_cons_zero, List.set_cons_succ]
    refine wpAnyH_take (i := 3) (v := ?va4) (by simp only [List.getElem?_toArray, List.getElem?_cons_zero, List.getElem?_cons_succ]; exact rfl) (by kernel_rfl) (by kernel_rfl) (by kernel_rfl) (fun _ _ _ h => h) (Or.inl ⟨by rfl, ?ya4⟩) ⟨c2, c3, c4, c5⟩ ?ra4
    case ya4 =>
      intro w' hS
      obtain ⟨s2, s3, s4, s5⟩ := hS
      go_simp
      try with_reducible rfl
    case ra4 =>
    simp only [Act.put, List.setIfInBounds_toArray, List.set_cons_zero, List.set_cons_succ]
    refine wpAnyH_take (i := 4) (v := ?va5) (by simp only [List.getElem?_toArray, List.getElem?_cons_zero, List.getElem?_cons_succ]; exact rfl) (by kernel_rfl) (by kernel_rfl) (by kernel_rfl) (fun _ _ _ h => h) (Or.inl ⟨by rfl, ?ya5⟩) ⟨c2, c3, c4, c5⟩ ?ra5
    case ya5 =>
      intro w' hS
      obtain ⟨s2, s3, s4, s5⟩ := hS
      go_simp
      try with_reducible rfl
    case ra5 =>
    simp only [Act.put, List.setIfInBounds_toArray, List.set_cons_zero, List.set_cons_succ]
    refine wpAnyH_take (i := 5) (v := ?va6) (by simp only [List.getElem?_toArray, List.getElem?_cons_zero, List.getElem?_cons_succ]; exact rfl) (by kernel_rfl) (by kernel_rfl) (by kernel_rfl) (fun _ _ _ h => h) (Or.inl ⟨by rfl, ?ya6⟩) ⟨c2, c3, c4, c5⟩ ?ra6
    case ya6 =>
      intro w' hS
      obtain ⟨s2, s3, s4, s5⟩ := hS
      go_simp
      try with_reducible rfl
    case ra6 =>
    simp only [Act.put, List.setIfInBounds_toArray, List.set_cons_zero, List.set_cons_succ]
    refine wpAnyH_take (i := 6) (v := ?va7) (by simp only [List.getElem?_toArray, List.getElem?_cons_zero, List.getElem?_cons_succ]; exact rfl) (by kernel_rfl) (by kernel_rfl) (by kernel_rfl) (fun _ _ _ h => h) (Or.inl ⟨by rfl, ?ya7⟩) ⟨c2, c3, c4, c5⟩ ?ra7
    case ya7 =>
      intro w' hS
      obtain ⟨s2, s3, s4, s5⟩ := hS
      go_simp
      try with_reducible rfl
    case ra7 =>
    simp only [Act.put, List.setIfInBounds_toArray, List.set_cons_zero, List.set_cons_succ]
    refine wpAnyH_take (i := 7) (v := ?va8) (by simp only [List.getElem?_toArray, List.getElem?_cons_zero, List.getElem?_cons_succ]; exact rfl) (by kernel_rfl) (by kernel_rfl) (by kernel_rfl) (fun _ _ _ h => h) (Or.inl ⟨by rfl, ?ya8⟩) ⟨c2, c3, c4, c5⟩ ?ra8
    case ya8 =>
      intro w' hS
      obtain ⟨s2, s3, s4, s5⟩ := hS
      go_simp
      try with_reducible rfl
    case ra8 =>
    simp only [Act.put, List.setIfInBounds_toArray, List.set_cons_zero, List.set_cons_succ]
    refine wpAnyH_take (i := 8) (v := ?va9) (by simp only [List.getElem?_toArray, List.getElem?_cons_zero, List.getElem?_cons_succ]; exact rfl) (by kernel_rfl) (by kernel_rfl) (by kernel_rfl) (fun _ _ _ h => h) (Or.inl ⟨by rfl, ?ya9⟩) ⟨c2, c3, c4, c5⟩ ?ra9
    case ya9 =>
      intro w' hS
      obtain ⟨s2, s3, s4, s5⟩ := hS
      go_simp
      try with_reducible rfl
    case ra9 =>
    simp only [Act.put, List.setIfInBounds_toArray, List.set_cons_zero, List.set_cons_succ]
    refine wpAnyH_ready (rs := [9]) (by kernel_rfl) (by simp) ?_
    refine AllReadyH.cons (by simp only [List.getElem?_toArray, List.getElem?_cons_zero, List.getElem?_cons_succ]; exact rfl) (fun K hK => ?_) AllReadyH.nil
    go_simp
    refine (hN _).out.mono ?_
    rintro r' w1 ⟨rfl, rfl⟩
    have hCA : FCells (w.alloc (hO 0 sz er)).drew fb (frL lim p (.slice ad n cp) ⟨0, sz, er⟩) := hC.of_block (Below.heap_alloc _ _ _ hfb)
    have hownA : FOwn (w.alloc (hO 0 sz er)).drew (fb + 1) (.slice ad n cp) r := World.ownsRow.drew (World.ownsRow.alloc hown _)
    have hckA : Chk (w.alloc (hO 0 sz er)).drew g off c := hck.of_block (Below.heap_alloc w _ _ hgl)
    have nA : w.heap.size ≤ (w.alloc (hO 0 sz er)).drew.heap.size := by simp
    have eA : ∀ b, b < w.heap.size → (w.alloc (hO 0 sz er)).drew.heap[b]? = w.heap[b]? := fun b hb => Below.heap_alloc w _ _ hb
    have BA : Below fb w (w.alloc (hO 0 sz er)).drew := ((Below.refl _ _).alloc (Nat.le_of_lt hfb) _).drew
    obtain ⟨⟨e0, e1, e2, e3, e4, e5⟩, _⟩ := cells6 hCA
    go_simp
    refine hK.out _ _ ⟨e2, e3, e4, e5⟩ (fun _ => ?_)
    clear hK K e0 e1 e2 e3 e4 e5
    generalize (w.alloc (hO 0 sz er)).drew = wA at *
    refine wpAnyH_ready (rs := [10]) (by kernel_rfl) (by simp) ?_
    refine AllReadyH.cons (by simp only [List.getElem?_toArray, List.getElem?_cons_zero, List.getElem?_cons_succ]; exact rfl) (fun K hK => ?_) AllReadyH.nil
    go_simp
    obtain ⟨⟨e0, e1, e2, e3, e4, e5⟩, _⟩ := cells6 hCA
    refine hK.out _ _ ⟨e2, e3, e4, e5⟩ (fun _ => ?_)
    clear hK K
    refine wpAnyH_done (by kernel_rfl) ?_ _
    refine NoPanic.normal ?_
    clear c0 c1 c2 c3 c4 c5 y1 y2 y3 y4 y5
    obtain ⟨⟨e0, e1, e2, e3, e4, e5⟩, t1, t2, t3, t4, t5⟩ := cells6 hCA
    have hGr : Hid (Calls Try.prog 35 #[.slice ad n cp, .int .i64 (q : Int)] wA fun e w' => GrowQ (fb + 1) (.slice ad n cp) r q wA e w') := grow_any (fb + 1) (.slice ad n cp) r q wA hownA (by omega) q1 (by have := hn'.out; omega)
    go_wp2_with fail
    refine hGr.out.mono ?_
    rintro e wG ⟨gG, capG, cur, rfl, hgG, hrm, hcx, hcs, hct, hBg, hfr, hbG⟩
    rw [← hn'.out] at hrm hct ⊢
    have hfbA : fb < wA.heap.size := by omega
    have hCG : FCells wG fb (frL lim p (.slice ad n cp) ⟨0, sz, er⟩) := hCA.of_block (hbG.block fb hfbA)
    obtain ⟨⟨f0, f1, f2, f3, f4, f5⟩, z1, z2, z3, z4, z5⟩ := cells6 hCG
    have hgne : gG ≠ fb := by omega
    have w0 : n ≤ 1073741824 := by have := hn'.out; omega
    have w1 : q ≤ 1073741824 := by omega
    have w3 : n + q ≤ capG := hrm
    have w4 : (q : Int) ≤ (cl : Int) := by omega
    have hcapne : capG ≠ n := by omega
    obtain ⟨wS, hwS⟩ : ∃ wS, wG.setCell ⟨fb, 2, none⟩ (.slice (some ⟨gG, 0, none⟩) (n + q) capG) = wS := ⟨_, rfl⟩
    have hCS : FCells wS fb (frL lim p (.slice (some ⟨gG, 0, none⟩) (n + q) capG) ⟨0, sz, er⟩) := by rw [← hwS]; exact hCG.set 2 (by simp) _
    have heS : ∀ b, b ≠ fb → wS.heap[b]? = wG.heap[b]? := fun b hb => by rw [← hwS]; exact Below.heap_setCell _ _ _ _ hb
    have hgS : wS.heap[gG]? = some (.cells cur 5 (0, 0)) := by rw [heS gG hgne]; exact hgG
    have hckS : Chk wS g off c := hckA.of_block (by rw [heS g hgf, hbG.block g (by omega)])
    have hlq : (bv (c.take q)).length = q := by rw [bv_len, List.length_take]; have := hcl'.out; omega
    have hrun := run_copy_row (P := Try.prog) wS 32 32 3 5 gG n q (capG - n) ⟨g, off, none⟩ q cap cur 5 (bv (c.take q)) Try.underlying32 u8_one hgS (by rw [hlq]; exact (Nat.min_self q).symm) (fun j v hv => hckS.src q j v hv) (by rw [hlq, hcs]; omega) (bv_one _)
    have hownC := own_copied (W := wS) (fb := fb) (c := c) hgS hn'.out hrm hcx hcs hct hBg (by have := hcl'.out; omega)
    rw [hlq] at hrun hownC
    obtain ⟨wC, hwC⟩ : ∃ wC, wS.setRow gG (cur.toList.take n ++ bv (c.take q) ++ cur.toList.drop (n + q)).toArray = wC := ⟨_, rfl⟩
    have heC : ∀ b, b ≠ gG → wC.heap[b]? = wS.heap[b]? := fun b hb => by rw [← hwC]; exact setRow_other wS gG b _ hb
    have hnC : wC.heap.size = wG.heap.size := by rw [← hwC, ← hwS]; simp [World.setRow]
    have hBC : Below fb w wC := by
      refine (BA.trans (hbG.mono (by omega))).trans ?_
      rw [← hwC, ← hwS]
      refine below_setRow (Below.setCell (Below.refl _ _) ?_ _) (by omega) _
      exact Nat.le_refl _
    rw [hwC] at hrun hownC
    have hCC : FCells wC fb (frL lim p (.slice (some ⟨gG, 0, none⟩) (n + q) capG) ⟨0, sz, er⟩) := hCS.of_block (heC fb (by omega))
    have hLk : Hid (Calls Try.prog 36 #[.pointer (some ⟨fb, 0, none⟩)] wC fun e w' => e = .returned (.tuple #[]) ∧ FCells w' fb (frL lim p (.slice (some ⟨gG, 0, none⟩) (n + q) capG) (FrMath.look lim (r ++ c.take q))) ∧ Below fb wC w' ∧ ∀ b, b < wC.heap.size → b ≠ fb → w'.heap[b]? = wC.heap[b]?) := fLook_any fb lim p _ _ _ wC hCC hownC
    have hcell : wS.cell? ⟨fb, 2, none⟩ = some (.slice (some ⟨gG, 0, none⟩) (n + q) capG) := (cells6 hCS).1.2.2.1
    have heAll : Hid (∀ b, b < w.heap.size → b ≠ fb → b ≠ gG → wC.heap[b]? = w.heap[b]?) := fun b hb hb1 hb2 => by rw [heC b hb2, heS b hb1, hbG.block b (by omega), eA b hb]
    clear hCC hwC heC hCS heS hgS hckS hlq hgG hCG
    go_wp2_with fail
    refine hLk.out.mono ?_
    rintro e w9 ⟨rfl, hC9, hB9, he9⟩
    have hn9 : w.heap.size ≤ wC.heap.size := by have := hbG.size; omega
    have hgG9 : gG < wC.heap.size := (own_lt hownC rfl).2
    have hkp : Kept fb (.slice ad n cp) w w9 := by
      refine ⟨hBC.trans hB9, fun b hb hb1 hb2 => ?_⟩
      have hbg : b ≠ gG := by
        intro hh
        subst hh
        rcases hfr with hfr | hfr
        · exact hb2 hfr
        · omega
      rw [he9 b (by omega) hb1, heAll.out b hb hb1 hbg]
    have hown9 : FOwn w9 (fb + 1) (.slice (some ⟨gG, 0, none⟩) (n + q) capG) (r ++ c.take q) := fown_below hownC (fun b hb => by
      injection hb with hb
      subst hb
      exact he9 _ hgG9 hgne)
    have hfresh : Fresh (.slice ad n cp) (.slice (some ⟨gG, 0, none⟩) (n + q) capG) w := by
      rcases hfr with hfr | hfr
      · exact Or.inl hfr.symm
      · refine Or.inr (fun b hb => ?_)
        injection hb with hb
        subst hb
        show w.heap.size ≤ gG
        omega
    have hck9 : Chk w9 g off c := hck.of_block (hkp.2 g hgl hgf hgv)
    have w4 : (q : Int) ≤ (cl : Int) := by omega
    have w5 : q ≤ cl := hqc
    have hres : Hid (∀ off', (cap ≠ q → off' = off + q) → TakeQ fb lim p (.slice ad n cp) r w g c q (.returned (.slice (some ⟨g, off', none⟩) (cl - q) (cap - q))) w9) := fun off' ho => by
      refine ⟨off', cap - q, _, by rw [hcl'.out], by rw [hcl'.out]; omega, by omega, ?_, hC9, hown9, hfresh, hkp⟩
      by_cases hcq : cap = q
      · intro jj hjj
        rw [List.length_drop, hcl'.out] at hjj
        omega
      · rw [ho hcq]
        exact hck9.drop q
    clear hkp hown9 hfresh hck9 hC9 hB9 he9 hLk hownC heAll hBC hfr hrun hcell hck hckA hown hownA hCA
    by_cases hcq : cap = q
    · go_wp2_with fail
      go_ret
      have hfin := hres.out off (fun hh => absurd hcq hh)
      rw [show cap - q = 0 by omega] at hfin
      exact hfin
    · go_wp2_with fail
      go_ret
      exact hres.out (off + q) (fun _ => rfl)
  · rw [if_neg hmi] at hm
    have e6 : ((mi : Int) == 0) = false := by rw [beq_eq_false_iff_ne]; omega
    subst hm
    have d1 : (if (cl : Int) < (m : Int) then (cl : Int) else (m : Int)) = (q : Int) := by rw [hq]; split <;> split <;> omega
    have d2 : (if cl < m then (cl : Int) else (m : Int)) = (q : Int) := by rw [hq]; split <;> omega
    have hCA : FCells w fb (frL lim p (.slice ad n cp) ⟨m, sz, er⟩) := hC
    have hownA : FOwn w (fb + 1) (.slice ad n cp) r := hown
    have hckA : Chk w g off c := hck
    have nA : w.heap.size ≤ w.heap.size := Nat.le_refl _
    have BA : Below fb w w := Below.refl _ _
    clear hn hq hcl hmi
    go_enter Try.func19, Try.ntmps19
    clear c0 c1 c2 c3 c4 c5 y1 y2 y3 y4 y5
    obtain ⟨⟨e0, e1, e2, e3, e4, e5⟩, t1, t2, t3, t4, t5⟩ := cells6 hCA
    have hGr : Hid (Calls Try.prog 35 #[.slice ad n cp, .int .i64 (q : Int)] w fun e w' => GrowQ (fb + 1) (.slice ad n cp) r q w e w') := grow_any (fb + 1) (.slice ad n cp) r q w hownA (by omega) q1 (by have := hn'.out; omega)
    go_wp2_with fail
    refine hGr.out.mono ?_
    rintro e wG ⟨gG, capG, cur, rfl, hgG, hrm, hcx, hcs, hct, hBg, hfr, hbG⟩
    rw [← hn'.out] at hrm hct ⊢
    have hfbA : fb < w.heap.size := by omega
    have hCG : FCells wG fb (frL lim p (.slice ad n cp) ⟨m, sz, er⟩) := hCA.of_block (hbG.block fb hfbA)
    obtain ⟨⟨f0, f1, f2, f3, f4, f5⟩, z1, z2, z3, z4, z5⟩ := cells6 hCG
    have hgne : gG ≠ fb := by omega
    have w0 : n ≤ 1073741824 := by have := hn'.out; omega
    have w1 : q ≤ 1073741824 := by omega
    have w3 : n + q ≤ capG := hrm
    have w4 : (q : Int) ≤ (cl : Int) := by omega
    have hcapne : capG ≠ n := by omega
    obtain ⟨wS, hwS⟩ : ∃ wS, wG.setCell ⟨fb, 2, none⟩ (.slice (some ⟨gG, 0, none⟩) (n + q) capG) = wS := ⟨_, rfl⟩
    have hCS : FCells wS fb (frL lim p (.slice (some ⟨gG, 0, none⟩) (n + q) capG) ⟨m, sz, er⟩) := by rw [← hwS]; exact hCG.set 2 (by simp) _
    have heS : ∀ b, b ≠ fb → wS.heap[b]? = wG.heap[b]? := fun b hb => by rw [← hwS]; exact Below.heap_setCell _ _ _ _ hb
    have hgS : wS.heap[gG]? = some (.cells cur 5 (0, 0)) := by rw [heS gG hgne]; exact hgG
    have hckS : Chk wS g off c := hckA.of_block (by rw [heS g hgf, hbG.block g (by omega)])
    have hlq : (bv (c.take q)).length = q := by rw [bv_len, List.length_take]; have := hcl'.out; omega
    have hrun := run_copy_row (P := Try.prog) wS 32 32 3 5 gG n q (capG - n) ⟨g, off, none⟩ q cap cur 5 (bv (c.take q)) Try.underlying32 u8_one hgS (by rw [hlq]; exact (Nat.min_self q).symm) (fun j v hv => hckS.src q j v hv) (by rw [hlq, hcs]; omega) (bv_one _)
    have hownC := own_copied (W := wS) (fb := fb) (c := c) hgS hn'.out hrm hcx hcs hct hBg (by have := hcl'.out; omega)
    rw [hlq] at hrun hownC
    obtain ⟨wC, hwC⟩ : ∃ wC, wS.setRow gG (cur.toList.take n ++ bv (c.take q) ++ cur.toList.drop (n + q)).toArray = wC := ⟨_, rfl⟩
    have heC : ∀ b, b ≠ gG → wC.heap[b]? = wS.heap[b]? := fun b hb => by rw [← hwC]; exact setRow_other wS gG b _ hb
    have hnC : wC.heap.size = wG.heap.size := by rw [← hwC, ← hwS]; simp [World.setRow]
    have hBC : Below fb w wC := by
      refine (BA.trans (hbG.mono (by omega))).trans ?_
      rw [← hwC, ← hwS]
      refine below_setRow (Below.setCell (Below.refl _ _) ?_ _) (by omega) _
      exact Nat.le_refl _
    rw [hwC] at hrun hownC
    have hCC : FCells wC fb (frL lim p (.slice (some ⟨gG, 0, none⟩) (n + q) capG) ⟨m, sz, er⟩) := hCS.of_block (heC fb (by omega))
    have hLk : Hid (Calls Try.prog 36 #[.pointer (some ⟨fb, 0, none⟩)] wC fun e w' => e = .returned (.tuple #[]) ∧ FCells w' fb (frL lim p (.slice (some ⟨gG, 0, none⟩) (n + q) capG) (FrMath.look lim (r ++ c.take q))) ∧ Below fb wC w' ∧ ∀ b, b < wC.heap.size → b ≠ fb → w'.heap[b]? = wC.heap[b]?) := fLook_any fb lim p _ _ _ wC hCC hownC
    have hcell : wS.cell? ⟨fb, 2, none⟩ = some (.slice (some ⟨gG, 0, none⟩) (n + q) capG) := (cells6 hCS).1.2.2.1
    have heAll : Hid (∀ b, b < w.heap.size → b ≠ fb → b ≠ gG → wC.heap[b]? = w.heap[b]?) := fun b hb hb1 hb2 => by rw [heC b hb2, heS b hb1, hbG.block b (by omega)]
    clear hCC hwC heC hCS heS hgS hckS hlq hgG hCG
    go_wp2_with fail
    refine hLk.out.mono ?_
    rintro e w9 ⟨rfl, hC9, hB9, he9⟩
    have hn9 : w.heap.size ≤ wC.heap.size := by have := hbG.size; omega
    have hgG9 : gG < wC.heap.size := (own_lt hownC rfl).2
    have hkp : Kept fb (.slice ad n cp) w w9 := by
      refine ⟨hBC.trans hB9, fun b hb hb1 hb2 => ?_⟩
      have hbg : b ≠ gG := by
        intro hh
        subst hh
        rcases hfr with hfr | hfr
        · exact hb2 hfr
        · omega
      rw [he9 b (by omega) hb1, heAll.out b hb hb1 hbg]
    have hown9 : FOwn w9 (fb + 1) (.slice (some ⟨gG, 0, none⟩) (n + q) capG) (r ++ c.take q) := fown_below hownC (fun b hb => by
      injection hb with hb
      subst hb
      exact he9 _ hgG9 hgne)
    have hfresh : Fresh (.slice ad n cp) (.slice (some ⟨gG, 0, none⟩) (n + q) capG) w := by
      rcases hfr with hfr | hfr
      · exact Or.inl hfr.symm
      · refine Or.inr (fun b hb => ?_)
        injection hb with hb
        subst hb
        show w.heap.size ≤ gG
        omega
    have hck9 : Chk w9 g off c := hck.of_block (hkp.2 g hgl hgf hgv)
    have w4 : (q : Int) ≤ (cl : Int) := by omega
    have w5 : q ≤ cl := hqc
    have hres : Hid (∀ off', (cap ≠ q → off' = off + q) → TakeQ fb lim p (.slice ad n cp) r w g c q (.returned (.slice (some ⟨g, off', none⟩) (cl - q) (cap - q))) w9) := fun off' ho => by
      refine ⟨off', cap - q, _, by rw [hcl'.out], by rw [hcl'.out]; omega, by omega, ?_, hC9, hown9, hfresh, hkp⟩
      by_cases hcq : cap = q
      · intro jj hjj
        rw [List.length_drop, hcl'.out] at hjj
        omega
      · rw [ho hcq]
        exact hck9.drop q
    clear hkp hown9 hfresh hck9 hC9 hB9 he9 hLk hownC heAll hBC hfr hrun hcell hck hckA hown hownA hCA
    by_cases hcq : cap = q
    · go_wp2_with fail
      go_ret
      have hfin := hres.out off (fun hh => absurd hcq hh)
      rw [show cap - q = 0 by omega] at hfin
      exact hfin
    · go_wp2_with fail
      go_ret
      exact hres.out (off + q) (fun _ => rfl)
end Go.Proofs.Ythaonpmmfennhaa
