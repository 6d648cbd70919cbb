import Derived.Test.YthpfnajgbocpnaaPtRis
import Derived.Laws.Slices
namespace Go.Proofs.Ythpfnajgbocpnaa
namespace Pt
open Go.RowKit Go.Sort Go.Lib
open PtMath (Inc setOf cnt)
set_option linter.unusedVariables false
set_option maxRecDepth 100000
open PtT (Rk TB en)
variable {Tk : PtT.Rk}

/-- A cursor at block b ahead of the numbers l, whose row lies from lo on and ahead of b. -/
def Cur (Tk : PtT.Rk) (w : World) (lo b : Nat) (l : List Nat) : Prop := ∃ a cap, w.cell? ⟨b, 0, none⟩ = some (.slice a l.length cap) ∧ w.frozen? ⟨b, 0, none⟩ = false ∧ NRow Tk w a l ∧ l.length ≤ cap ∧ cap ≤ maxLen ∧ l.length ≤ 140737488355328 ∧ ∀ x, l ≠ [] → a = some x → lo ≤ x.block ∧ x.block < b
theorem Cur.lt {w : World} {lo b : Nat} {l : List Nat} (h : Cur Tk w lo b l) : b < w.heap.size := by
  obtain ⟨a, cap, h1, _⟩ := h
  exact World.block_lt_of_cell? w _ h1
theorem Cur.same {w w' : World} {lo b : Nat} {l : List Nat} (h : Cur Tk w lo b l) (hb : ∀ k, lo ≤ k → k ≤ b → w'.heap[k]? = w.heap[k]?) (hlo : lo ≤ b) : Cur Tk w' lo b l := by
  obtain ⟨a, cap, h1, h2, h3, h4, h5, h6, h7⟩ := h
  refine ⟨a, cap, ?_, ?_, ?_, h4, h5, h6, h7⟩
  · rw [World.cell?_of_block (w := w) (hb b hlo (Nat.le_refl _))]; exact h1
  · rw [World.frozen?_of_block (w := w) (hb b hlo (Nat.le_refl _))]; exact h2
  · by_cases hl : l = []
    · subst hl; exact NRow.nil _ _
    refine h3.of_block fun g hg _ => ?_
    cases a with
    | none => cases hg
    | some x =>
      simp at hg
      subst hg
      obtain ⟨h8, h9⟩ := h7 x hl rfl
      exact hb _ h8 (Nat.le_of_lt h9)
/-- Only block b may have turned. -/
def ButB (b : Nat) (w w' : World) : Prop := w'.os = w.os ∧ w'.tape = w.tape ∧ w'.output = w.output ∧ w'.heap.size = w.heap.size ∧ ∀ k, k ≠ b → w'.heap[k]? = w.heap[k]?
theorem ButB.below {b B : Nat} {w w' : World} (h : ButB b w w') (hB : B ≤ b) : Below B w w' := ⟨h.1, h.2.1, h.2.2.1, Nat.le_of_eq h.2.2.2.1.symm, fun k hk => h.2.2.2.2 k (by omega)⟩
theorem ButB.refl (b : Nat) (w : World) : ButB b w w := ⟨rfl, rfl, rfl, rfl, fun _ _ => rfl⟩
theorem ButB.trans {b : Nat} {w w' w'' : World} (h : ButB b w w') (k : ButB b w' w'') : ButB b w w'' := ⟨k.1.trans h.1, k.2.1.trans h.2.1, k.2.2.1.trans h.2.2.1, k.2.2.2.1.trans h.2.2.2.1, fun i hi => (k.2.2.2.2 i hi).trans (h.2.2.2.2 i hi)⟩
theorem ButB.drewN (b : Nat) (w : World) (q : Nat) : ButB b w (w.drewN q) := ⟨rfl, rfl, rfl, rfl, fun _ _ => rfl⟩
theorem ButB.set (b o : Nat) (w : World) (v : Value) : ButB b w (w.setCell ⟨b, o, none⟩ v) := ⟨rfl, rfl, rfl, by simp [World.setCell], fun k hk => Below.heap_setCell _ _ _ _ hk⟩

theorem el64 : Try.prog.underlying 23 = some (.slice (Try.prog.elem 23)) := by kernel_rfl
theorem run_sz64 (W : World) : (Go.sizeOf (Try.prog.elem 23)).run Try.prog W = .ok 1 W := by
  obtain ⟨i0, hi, hz0, hz1, hz2⟩ := info_parts info_i64
  have e : Try.prog.elem 23 = 9 := by kernel_rfl
  rw [e]
  simp [Go.sizeOf, typeInfo, hi, hz1]
/-- A row from its k-th on. -/
def cutA (a : Option Addr) (k c : Nat) : Option Addr := if c = k then a else a.map (·.add (k * 1))
theorem slice_from (a : Option Addr) (n c k : Nat) (z : Int) (hz : z = (k : Int)) (hk : k ≤ n) (W : World) :
    (Instr.sliceAt 23 (.slice a n c) (some (.int .i64 z)) none none).run Try.prog W = .ok (.slice (cutA a k c) (n - k) (c - k)) W := by
  subst hz
  rw [run_sliceAt_slice _ _ _ _ _ _ el64, run_slice_l _ _ _ _ _ el64 _ _ (Int.natCast_nonneg _) (Int.ofNat_le.2 hk), run_sz64]
  simp [Result.andThen, sliced, cutA]
theorem slice_two (a : Option Addr) (n c k m : Nat) (z y : Int) (hz : z = (k : Int)) (hy : y = (m : Int)) (hk : k ≤ m) (hm : m ≤ c) (W : World) :
    (Instr.sliceAt 23 (.slice a n c) (some (.int .i64 z)) (some (.int .i64 y)) none).run Try.prog W = .ok (.slice (cutA a k c) (m - k) (c - k)) W := by
  subst hz hy
  rw [run_sliceAt_slice _ _ _ _ _ _ el64, run_slice_lh _ _ _ _ _ el64 _ _ _ _ (Int.natCast_nonneg _) (Int.ofNat_le.2 hk) (Int.ofNat_le.2 hm), run_sz64]
  simp [Result.andThen, sliced, cutA]
theorem NRow.cut {w : World} {a : Option Addr} {l : List Nat} {k c : Nat} (h : NRow Tk w a l) (hc : l.length ≤ c) : NRow Tk w (cutA a k c) (l.drop k) := fun i hi => by
  rw [List.length_drop] at hi
  obtain ⟨b, off, e, h1⟩ := h (k + i) (by omega)
  subst e
  refine ⟨b, off + k, ?_, ?_⟩
  · unfold cutA
    rw [if_neg (by omega)]
    simp [add_off]
  · rw [List.getElem_drop, ← h1, Nat.add_assoc]
theorem add_block (x : Addr) (n : Nat) : (x.add n).block = x.block := by
  unfold Addr.add
  split <;> rfl
theorem cutA_in {a : Option Addr} {k c lo b : Nat} (h : ∀ x, a = some x → lo ≤ x.block ∧ x.block < b) : ∀ x, cutA a k c = some x → lo ≤ x.block ∧ x.block < b := by
  intro x hx
  unfold cutA at hx
  by_cases e : c = k
  · rw [if_pos e] at hx; exact h x hx
  · rw [if_neg e] at hx
    cases a with
    | none => cases hx
    | some y =>
      simp only [Option.map_some] at hx
      injection hx with hx
      subst hx
      rw [add_block]
      exact h y rfl
/-- The cursor, its row cut. -/
theorem Cur.cut {w : World} {lo b : Nat} {l : List Nat} {a : Option Addr} {cap k : Nat} (h1 : w.cell? ⟨b, 0, none⟩ = some (.slice a l.length cap)) (h2 : w.frozen? ⟨b, 0, none⟩ = false) (h3 : NRow Tk w a l) (h4 : l.length ≤ cap) (h5 : cap ≤ maxLen) (h6 : l.length ≤ 140737488355328)
    (h7 : ∀ x, l ≠ [] → a = some x → lo ≤ x.block ∧ x.block < b) (hk : k ≤ l.length) : Cur Tk (w.setCell ⟨b, 0, none⟩ (.slice (cutA a k cap) (l.length - k) (cap - k))) lo b (l.drop k) := by
  refine ⟨cutA a k cap, cap - k, ?_, ?_, ?_, ?_, ?_, ?_, fun x hd => cutA_in (fun y => h7 y (fun e => hd (by rw [e]; simp))) x⟩
  · rw [World.cell?_setCell_same w _ _ h1, List.length_drop]
  · rw [World.frozen?_setCell]; exact h2
  · by_cases hl : l = []
    · subst hl; simp only [List.drop_nil]; exact NRow.nil _ _
    refine NRow.of_block (h3.cut h4) fun g hg _ => Below.heap_setCell _ _ _ _ ?_
    cases hca : cutA a k cap with
    | none => rw [hca] at hg; cases hg
    | some x =>
      rw [hca] at hg
      simp at hg
      subst hg
      have := (cutA_in (k := k) (c := cap) (fun y => h7 y hl) x hca).2
      show _ ≠ b
      omega
  · rw [List.length_drop]; omega
  · omega
  · rw [List.length_drop]; omega
set_option maxRecDepth 100000 in
set_option maxHeartbeats 1000000 in
theorem left_any (lo b : Nat) (l : List Nat) (w : World) (h : Cur Tk w lo b l) :
    Calls Try.prog 45 #[.pointer (some ⟨b, 0, none⟩)] w fun e w' => e = .returned (.int .i64 (l.length : Int)) ∧ w' = w := by
  obtain ⟨a, cap, h1, _⟩ := h
  go_enter Try.func45, Try.ntmps45
  go_wp2_with fail
  go_ret
  exact ⟨rfl, rfl⟩
/-- What Here says. -/
def hdV (Tk : PtT.Rk) : List Nat → Value
  | [] => .string ⟨#[]⟩
  | x :: _ => .string (TB Tk x)
abbrev hereV (Tk : PtT.Rk) (l : List Nat) : Value := .tuple #[hdV Tk l, .bool (decide (l ≠ []))]
set_option maxRecDepth 100000 in
set_option maxHeartbeats 1000000 in
theorem here_any (lo b : Nat) (l : List Nat) (w : World) (h : Cur Tk w lo b l) :
    Calls Try.prog 28 #[.pointer (some ⟨b, 0, none⟩)] w fun e w' => e = .returned (hereV Tk l) ∧ w' = w := by
  obtain ⟨a, cap, h1, _, h3, _⟩ := h
  cases l with
  | nil =>
    go_enter Try.func28, Try.ntmps28
    go_wp2_with fail
    go_ret2
    exact ⟨rfl, rfl⟩
  | cons x l =>
    obtain ⟨g, off, rfl, c1⟩ := h3 0 (by simp)
    simp only [Nat.add_zero, List.getElem_cons_zero] at c1
    have hq : ((((x :: l).length : Nat) : Int) == 0) = false := by simp; omega
    have hp : (0 : Int) < (((x :: l).length : Nat) : Int) := by simp only [List.length_cons]; omega
    generalize (x :: l).length = n at *
    clear h3
    go_enter Try.func28, Try.ntmps28
    go_wp2_with fail
    go_ret2
    exact ⟨by simp [hdV], rfl⟩
set_option maxRecDepth 100000 in
set_option maxHeartbeats 1000000 in
theorem next_any (lo b : Nat) (l : List Nat) (w : World) (h : Cur Tk w lo b l) :
    Calls Try.prog 46 #[.pointer (some ⟨b, 0, none⟩)] w fun e w' => e = .returned (.tuple #[]) ∧ Cur Tk w' lo b (l.drop 1) ∧ ButB b w w' := by
  obtain ⟨a, cap, h1, h2, h3, h4, h5, h6, h7⟩ := h
  cases l with
  | nil =>
    go_enter Try.func46, Try.ntmps46
    go_wp2_with fail
    go_end0
    exact ⟨rfl, ⟨a, cap, h1, h2, h3, h4, h5, h6, h7⟩, ButB.refl _ _⟩
  | cons x l =>
    have hp : (0 : Int) < (((x :: l).length : Nat) : Int) := by simp only [List.length_cons]; omega
    have hsl : ∀ W, (Instr.sliceAt 23 (.slice a (x :: l).length cap) (some (.int .i64 1)) none none).run Try.prog W = .ok (.slice (cutA a 1 cap) ((x :: l).length - 1) (cap - 1)) W := fun W => slice_from a _ cap 1 1 rfl (by simp) W
    have hC : Hid (Cur Tk (w.setCell ⟨b, 0, none⟩ (.slice (cutA a 1 cap) ((x :: l).length - 1) (cap - 1))) lo b ((x :: l).drop 1)) := Cur.cut h1 h2 h3 h4 h5 h6 h7 (by simp)
    generalize (x :: l).length = n at *
    generalize cutA a 1 cap = a' at *
    clear h3 h4 h5 h6 h7
    go_enter Try.func46, Try.ntmps46
    go_wp2_with fail
    go_end0
    exact ⟨rfl, hC.out, ButB.set _ _ _ _⟩
end Pt
end Go.Proofs.Ythpfnajgbocpnaa
