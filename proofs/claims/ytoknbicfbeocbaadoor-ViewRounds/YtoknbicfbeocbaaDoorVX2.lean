import Derived.Test.YtoknbicfbeocbaaDoorVX1
import Derived.Deep.RegionHeld3
import Derived.Deep.RegionHeldLaw
namespace Go.Proofs.YtoknbicfbeocbaaDoor
namespace Vr
open Go.RowKit
set_option linter.unusedVariables false

/-- A reader: its block, and the nodes that it has still to take. -/
def Rdr (w : World) (g : Nat) (l : List Nd) : Prop := ∃ a c, Box w g 67 #[.slice a l.length c] ∧ NdRow w a l ∧ l.length ≤ c ∧ ∀ p, a = some p → p.block < g
theorem ownN_cap {w : World} {B : Nat} {a : Option Addr} {n c : Nat} {l : List Nd} (h : OwnN w B (.slice a n c) l) : l.length ≤ c := by
  rcases h with ⟨h1, ⟨h2, h3⟩ | ⟨g, cap, cur, h2, h3, h4, h5, _⟩⟩
  · injection h2 with _ _ h2
    omega
  · injection h2 with _ _ h2
    omega
theorem ownN_lt {w : World} {B : Nat} {p : Addr} {n c : Nat} {l : List Nd} (h : OwnN w B (.slice (some p) n c) l) : p.block < w.heap.size := by
  rcases h with ⟨h1, ⟨h2, _⟩ | ⟨g, cap, cur, h2, h3, h4, h5⟩⟩
  · cases h2
  · injection h2 with h2 _ _
    injection h2 with h2
    subst h2
    exact (Array.getElem?_eq_some_iff.1 h4).1
set_option maxRecDepth 100000 in
set_option maxHeartbeats 1000000 in
theorem atEnd_any (g : Nat) (l : List Nd) (w : World) (h : Rdr w g l) :
    Calls Tryd.prog 21 #[.pointer (some ⟨g, 0, none⟩)] w fun r w' => r = .returned (.bool (decide (l = []))) ∧ w' = w := by
  obtain ⟨a, c, hb, hrow, hc, hne⟩ := h
  have c0 := (hb.cell 0 (by simp)).1
  have e : decide (l = []) = ((l.length : Int) == 0) := by
    cases l <;> simp
    omega
  rw [e]
  clear e hb hrow hc hne
  go_enter Tryd.func21, Tryd.ntmps21
  go_wp2_with fail
  go_ret
  exact ⟨rfl, rfl⟩
set_option maxRecDepth 100000 in
set_option maxHeartbeats 1000000 in
theorem readerOf_any (s : ByteArray) (w : World) (l : List Nd) (hT : ∀ W, Calls Tryd.prog 29 #[.string s] W fun r w' => (∃ v q1 q2, r = .returned (.tuple #[v, .int .i64 q1, .int .i64 q2]) ∧ OwnN w' W.heap.size v l) ∧ Below W.heap.size W w') :
    Calls Tryd.prog 19 #[.string s] w fun r w' => (∃ g, r = .returned (.pointer (some ⟨g, 0, none⟩)) ∧ w.heap.size ≤ g ∧ Rdr w' g l) ∧ Below w.heap.size w w' := by
  have hT' : Hid (Calls Tryd.prog 29 #[.string s] w fun r w' => (∃ v q1 q2, r = .returned (.tuple #[v, .int .i64 q1, .int .i64 q2]) ∧ OwnN w' w.heap.size v l) ∧ Below w.heap.size w w') := hT w
  clear hT
  go_enter Tryd.func19, Tryd.ntmps19
  go_wp2_with fail
  refine hT'.out.mono ?_
  rintro r w1 ⟨⟨v, q1, q2, rfl, hov⟩, hb⟩
  obtain ⟨a, c, rfl, hrow⟩ := ownN_any hov
  clear hT'
  go_wp2_with fail
  go_ret
  refine ⟨⟨w1.heap.size, rfl, hb.size, a, c, Box.new _ _ _, hrow.below ((Below.refl _ _).alloc (Nat.le_refl _) _), ownN_cap hov, fun p hp => ?_⟩, hb.alloc hb.size _⟩
  subst hp
  exact ownN_lt hov
/-- The node has the form. -/
def frm (f e : Nd) : Bool := decide (e.dep = f.dep) && decide (e.cls = f.cls) && (e.made == f.made) && decide (e.tag = f.tag)
theorem ne_frm (f e : Nd) (W : World) :
    (binOp .neq 42 (.agg #[.int .i64 e.dep, .int .i64 e.cls, .bool e.made, .int .i64 e.tag, .string e.body]) (.agg #[.int .i64 f.dep, .int .i64 f.cls, .bool f.made, .int .i64 f.tag, .string e.body])).run Tryd.prog W = .ok (.bool (!(frm f e))) W := by
  have hS : Tryd.prog.underlying 42 = some (.struct (Tryd.prog.fieldsOf 42)) := by kernel_rfl
  have hp : Tryd.prog.stoodInHeld 42 = false := by kernel_rfl
  rw [run_neq_struct, run_equalIn_struct _ _ _ _ _ hS hp]
  simp only [Program.fieldsOf, Tryd.underlying42]
  unfold frm
  by_cases h1 : e.dep = f.dep <;> by_cases h2 : e.cls = f.cls <;> by_cases h3 : e.made = f.made <;> by_cases h4 : e.tag = f.tag <;> simp [Op.eqFields, go_sem, h1, h2, h3, h4]
theorem Rdr.below {w w' : World} {g : Nat} {l : List Nd} (h : Rdr w g l) (hb : Below w.heap.size w w') : Rdr w' g l := by
  obtain ⟨a, c, h1, h2, h3, h4⟩ := h
  exact ⟨a, c, h1.below hb, h2.below hb, h3, h4⟩
/-- What is written behind the reader is no matter to it. -/
theorem Rdr.far {w : World} {g : Nat} {l : List Nd} (h : Rdr w g l) (q j : Nat) (v : Value) (hq : g < q) : Rdr (w.setCell ⟨q, j, none⟩ v) g l := by
  obtain ⟨a, c, h1, h2, h3, h4⟩ := h
  refine ⟨a, c, h1.of (Below.heap_setCell _ _ _ _ (show g ≠ q by omega)), fun i hi => ?_, h3, h4⟩
  obtain ⟨b, off, e, x0, x1, x2, x3, x4⟩ := h2 i hi
  have hb : b < g := h4 _ e
  have far : ∀ k, (w.setCell ⟨q, j, none⟩ v).cell? ⟨b, k, none⟩ = w.cell? ⟨b, k, none⟩ := fun k => World.cell?_setCell_far _ _ _ _ (fun h => by have : q = b := h; omega)
  exact ⟨b, off, e, (far _).trans x0, (far _).trans x1, (far _).trans x2, (far _).trans x3, (far _).trans x4⟩
theorem rdr_more {w : World} {g b off n c : Nat} {e : Nd} {l : List Nd} (hb : Box w g 67 #[.slice (some ⟨b, off, none⟩) (e :: l).length c]) (hrow : NdRow w (some ⟨b, off, none⟩) (e :: l)) (hn : (e :: l).length = n) (hc : n ≤ c) (hne : b < g) : Rdr (w.setCell ⟨g, 0, none⟩ (.slice (some ⟨b, off + 5, none⟩) (n - 1) (c - 1))) g l := by
  subst hn
  refine ⟨some ⟨b, off + 5, none⟩, c - 1, hb.set 0 _, fun i hi => ?_, by simp at hc; omega, fun p hp => by injection hp with hp; subst hp; exact hne⟩
  obtain ⟨b', off', e1, x0, x1, x2, x3, x4⟩ := hrow (i + 1) (by simpa using hi)
  injection e1 with e1
  injection e1 with e1 e2
  subst e1 e2
  have far : ∀ k, (w.setCell ⟨g, 0, none⟩ (.slice (some ⟨b, off + 5, none⟩) ((e :: l).length - 1) (c - 1))).cell? ⟨b, k, none⟩ = w.cell? ⟨b, k, none⟩ := fun k => World.cell?_setCell_far _ _ _ _ (fun h => Nat.ne_of_lt hne h.symm)
  have q : off + (i + 1) * 5 = off + 5 + i * 5 := by omega
  rw [q] at x0 x1 x2 x3 x4
  exact ⟨b, off + 5, rfl, (far _).trans x0, (far _).trans x1, (far _).trans x2, (far _).trans x3, (far _).trans x4⟩
theorem rdr_last {w : World} {g b off n c : Nat} {e : Nd} {l : List Nd} (hb : Box w g 67 #[.slice (some ⟨b, off, none⟩) (e :: l).length c]) (hn : (e :: l).length = n) (hc : n ≤ 1) (hne : b < g) : Rdr (w.setCell ⟨g, 0, none⟩ (.slice (some ⟨b, off, none⟩) (n - 1) 0)) g l := by
  subst hn
  have h0 : l = [] := by
    cases l with
    | nil => rfl
    | cons x l => simp at hc
  subst h0
  exact ⟨some ⟨b, off, none⟩, 0, hb.set 0 _, fun i hi => by simp at hi, Nat.zero_le _, fun p hp => by injection hp with hp; subst hp; exact hne⟩
set_option maxRecDepth 100000 in
set_option maxHeartbeats 1000000 in
theorem take_none (g : Nat) (f : Nd) (w : World) (h : Rdr w g []) :
    Calls Tryd.prog 20 #[.pointer (some ⟨g, 0, none⟩), ndA f] w fun r w' => r = .returned (.tuple #[.string ⟨#[]⟩, .bool false]) ∧ Below w.heap.size w w' := by
  obtain ⟨Wf, hWf⟩ : ∃ W, w.alloc (.cells #[.int .i64 f.dep, .int .i64 f.cls, .bool f.made, .int .i64 f.tag, .string f.body] 42) = W := ⟨_, rfl⟩
  have hB : Hid (Below w.heap.size w Wf) := by rw [← hWf]; exact (Below.refl _ _).alloc (Nat.le_refl _) _
  have hE : Hid (Calls Tryd.prog 21 #[.pointer (some ⟨g, 0, none⟩)] Wf fun r w' => r = .returned (.bool true) ∧ w' = Wf) := atEnd_any g [] Wf (h.below hB.out)
  clear h
  go_enter Tryd.func20, Tryd.ntmps20
  go_wp2_with fail
  refine hE.out.mono ?_
  rintro r w1 ⟨rfl, rfl⟩
  go_wp2_with fail
  go_ret2
  exact ⟨rfl, hB.out⟩
set_option maxRecDepth 100000 in
set_option maxHeartbeats 1000000 in
theorem take_other (g : Nat) (f e : Nd) (l : List Nd) (w : World) (h : Rdr w g (e :: l)) (hf : frm f e = false) :
    Calls Tryd.prog 20 #[.pointer (some ⟨g, 0, none⟩), ndA f] w fun r w' => r = .returned (.tuple #[.string ⟨#[]⟩, .bool false]) ∧ Below w.heap.size w w' := by
  obtain ⟨Wf, hWf⟩ : ∃ W, w.alloc (.cells #[.int .i64 f.dep, .int .i64 f.cls, .bool f.made, .int .i64 f.tag, .string f.body] 42) = W := ⟨_, rfl⟩
  have hB : Hid (Below w.heap.size w Wf) := by rw [← hWf]; exact (Below.refl _ _).alloc (Nat.le_refl _) _
  have hQ : Box Wf w.heap.size 42 #[.int .i64 f.dep, .int .i64 f.cls, .bool f.made, .int .i64 f.tag, .string f.body] := by rw [← hWf]; exact Box.new _ _ _
  obtain ⟨Wn, hWn⟩ : ∃ W, Wf.alloc (.cells #[.int .i64 e.dep, .int .i64 e.cls, .bool e.made, .int .i64 e.tag, .string e.body] 42) = W := ⟨_, rfl⟩
  have hBn : Below Wf.heap.size Wf Wn := by rw [← hWn]; exact (Below.refl _ _).alloc (Nat.le_refl _) _
  have hQn : Box Wn Wf.heap.size 42 #[.int .i64 e.dep, .int .i64 e.cls, .bool e.made, .int .i64 e.tag, .string e.body] := by rw [← hWn]; exact Box.new _ _ _
  have HB : Hid (Below w.heap.size w Wn) := hB.out.trans (hBn.mono hB.out.size)
  have hK : Hid (∀ w', Below Wn.heap.size Wn w' → w'.cell? ⟨w.heap.size, 0, none⟩ = some (.int .i64 f.dep) ∧ w'.cell? ⟨w.heap.size, 1, none⟩ = some (.int .i64 f.cls) ∧ w'.cell? ⟨w.heap.size, 2, none⟩ = some (.bool f.made) ∧ w'.cell? ⟨w.heap.size, 3, none⟩ = some (.int .i64 f.tag) ∧ w'.cell? ⟨w.heap.size, 4, none⟩ = some (.string f.body) ∧ w'.cell? ⟨Wf.heap.size, 0, none⟩ = some (.int .i64 e.dep) ∧ w'.cell? ⟨Wf.heap.size, 1, none⟩ = some (.int .i64 e.cls) ∧ w'.cell? ⟨Wf.heap.size, 2, none⟩ = some (.bool e.made) ∧ w'.cell? ⟨Wf.heap.size, 3, none⟩ = some (.int .i64 e.tag) ∧ w'.cell? ⟨Wf.heap.size, 4, none⟩ = some (.string e.body)) := fun W hb => by
    have p := (hQ.below hBn).below hb
    have q := hQn.below hb
    exact ⟨(p.cell 0 (by simp)).1, (p.cell 1 (by simp)).1, (p.cell 2 (by simp)).1, (p.cell 3 (by simp)).1, (p.cell 4 (by simp)).1, (q.cell 0 (by simp)).1, (q.cell 1 (by simp)).1, (q.cell 2 (by simp)).1, (q.cell 3 (by simp)).1, (q.cell 4 (by simp)).1⟩
  have h := h.below hB.out
  have hE : Hid (Calls Tryd.prog 21 #[.pointer (some ⟨g, 0, none⟩)] Wf fun r w' => r = .returned (.bool false) ∧ w' = Wf) := atEnd_any g (e :: l) Wf h
  have hF : Hid (∀ W, Calls Tryd.prog 14 #[.agg #[.int .i64 f.dep, .int .i64 f.cls, .bool f.made, .int .i64 f.tag, .string f.body], .string e.body] W fun r w' => r = .returned (.agg #[.int .i64 f.dep, .int .i64 f.cls, .bool f.made, .int .i64 f.tag, .string e.body]) ∧ Below W.heap.size W w') := fun W => filled_any f e.body W
  have hN : ∀ W, (binOp .neq 42 (.agg #[.int .i64 e.dep, .int .i64 e.cls, .bool e.made, .int .i64 e.tag, .string e.body]) (.agg #[.int .i64 f.dep, .int .i64 f.cls, .bool f.made, .int .i64 f.tag, .string e.body])).run Tryd.prog W = .ok (.bool true) W := fun W => by rw [ne_frm, hf]; rfl
  obtain ⟨a, c, hb, hrow, hc, hne⟩ := h
  have c0 : Wf.cell? ⟨g, 0, none⟩ = some (.slice a (e :: l).length c) := (hb.cell 0 (by simp)).1
  obtain ⟨b, off, rfl, x0, x1, x2, x3, x4⟩ := hrow 0 (by simp)
  simp only [Nat.zero_mul, Nat.add_zero, List.getElem_cons_zero] at x0 x1 x2 x3 x4
  have hl : (0 : Int) < ((e :: l).length : Int) := by simp
  obtain ⟨n, hn⟩ : ∃ n, (e :: l).length = n := ⟨_, rfl⟩
  rw [hn] at c0 hl
  clear hb hrow hc hne hn hf hQ hQn hBn
  go_enter Tryd.func20, Tryd.ntmps20
  go_wp2_with fail
  refine hE.out.mono ?_
  rintro r w1 ⟨rfl, rfl⟩
  clear hE
  go_wp2_with fail
  have bN := Below.refl Wn.heap.size Wn
  obtain ⟨y0, y1, y2, y3, y4, z0, z1, z2, z3, z4⟩ := hK.out Wn bN
  clear x0 x1 x2 x3 x4
  go_region_held3 (fun w' => (w'.cell? ⟨w.heap.size, 0, none⟩ = some (.int .i64 f.dep) ∧ w'.cell? ⟨w.heap.size, 1, none⟩ = some (.int .i64 f.cls) ∧ w'.cell? ⟨w.heap.size, 2, none⟩ = some (.bool f.made) ∧ w'.cell? ⟨w.heap.size, 3, none⟩ = some (.int .i64 f.tag) ∧ w'.cell? ⟨w.heap.size, 4, none⟩ = some (.string f.body) ∧ w'.cell? ⟨w1.heap.size, 0, none⟩ = some (.int .i64 e.dep) ∧ w'.cell? ⟨w1.heap.size, 1, none⟩ = some (.int .i64 e.cls) ∧ w'.cell? ⟨w1.heap.size, 2, none⟩ = some (.bool e.made) ∧ w'.cell? ⟨w1.heap.size, 3, none⟩ = some (.int .i64 e.tag) ∧ w'.cell? ⟨w1.heap.size, 4, none⟩ = some (.string e.body)) ∧ Below Wn.heap.size Wn w')
    (first
      | exact ⟨hK.out _ bN.drew, bN.drew⟩
      | exact ⟨hK.out _ HB1, HB1⟩)
    (first
      | (go_at_call 14; refine (hF.out _).mono ?_; rintro e w2 ⟨rfl, hw2⟩; have HB1 : Below Wn.heap.size Wn w2 := (bN.drew).trans (hw2.mono (by first | exact Nat.le_refl _ | exact (bN.drew).size)); clear hw2))
  have oB : Hid (Below w.heap.size w w2) := HB.out.trans (HB1.mono HB.out.size)
  clear hF hK HB hB HB1 bN y0 y1 y2 y3 y4 z0 z1 z2 z3 z4 hN
  go_wp2_with fail
  go_ret2
  exact ⟨rfl, oB.out⟩
set_option maxRecDepth 100000 in
set_option maxHeartbeats 1000000 in
theorem take_yes (g : Nat) (f e : Nd) (l : List Nd) (w : World) (h : Rdr w g (e :: l)) (hf : frm f e = true) :
    Calls Tryd.prog 20 #[.pointer (some ⟨g, 0, none⟩), ndA f] w fun r w' => r = .returned (.tuple #[.string e.body, .bool true]) ∧ Rdr w' g l ∧ Ch (fun k => k = g) w w' := by
  obtain ⟨Wf, hWf⟩ : ∃ W, w.alloc (.cells #[.int .i64 f.dep, .int .i64 f.cls, .bool f.made, .int .i64 f.tag, .string f.body] 42) = W := ⟨_, rfl⟩
  have hB : Hid (Below w.heap.size w Wf) := by rw [← hWf]; exact (Below.refl _ _).alloc (Nat.le_refl _) _
  have hQ : Box Wf w.heap.size 42 #[.int .i64 f.dep, .int .i64 f.cls, .bool f.made, .int .i64 f.tag, .string f.body] := by rw [← hWf]; exact Box.new _ _ _
  obtain ⟨Wn, hWn⟩ : ∃ W, Wf.alloc (.cells #[.int .i64 e.dep, .int .i64 e.cls, .bool e.made, .int .i64 e.tag, .string e.body] 42) = W := ⟨_, rfl⟩
  have hBn : Below Wf.heap.size Wf Wn := by rw [← hWn]; exact (Below.refl _ _).alloc (Nat.le_refl _) _
  have hQn : Box Wn Wf.heap.size 42 #[.int .i64 e.dep, .int .i64 e.cls, .bool e.made, .int .i64 e.tag, .string e.body] := by rw [← hWn]; exact Box.new _ _ _
  have HB : Hid (Below w.heap.size w Wn) := hB.out.trans (hBn.mono hB.out.size)
  have hK : Hid (∀ w', Below Wn.heap.size Wn w' → w'.cell? ⟨w.heap.size, 0, none⟩ = some (.int .i64 f.dep) ∧ w'.cell? ⟨w.heap.size, 1, none⟩ = some (.int .i64 f.cls) ∧ w'.cell? ⟨w.heap.size, 2, none⟩ = some (.bool f.made) ∧ w'.cell? ⟨w.heap.size, 3, none⟩ = some (.int .i64 f.tag) ∧ w'.cell? ⟨w.heap.size, 4, none⟩ = some (.string f.body) ∧ w'.cell? ⟨Wf.heap.size, 0, none⟩ = some (.int .i64 e.dep) ∧ w'.cell? ⟨Wf.heap.size, 1, none⟩ = some (.int .i64 e.cls) ∧ w'.cell? ⟨Wf.heap.size, 2, none⟩ = some (.bool e.made) ∧ w'.cell? ⟨Wf.heap.size, 3, none⟩ = some (.int .i64 e.tag) ∧ w'.cell? ⟨Wf.heap.size, 4, none⟩ = some (.string e.body)) := fun W hb => by
    have p := (hQ.below hBn).below hb
    have q := hQn.below hb
    exact ⟨(p.cell 0 (by simp)).1, (p.cell 1 (by simp)).1, (p.cell 2 (by simp)).1, (p.cell 3 (by simp)).1, (p.cell 4 (by simp)).1, (q.cell 0 (by simp)).1, (q.cell 1 (by simp)).1, (q.cell 2 (by simp)).1, (q.cell 3 (by simp)).1, (q.cell 4 (by simp)).1⟩
  have h := h.below hB.out
  have hE : Hid (Calls Tryd.prog 21 #[.pointer (some ⟨g, 0, none⟩)] Wf fun r w' => r = .returned (.bool false) ∧ w' = Wf) := atEnd_any g (e :: l) Wf h
  have hF : Hid (∀ W, Calls Tryd.prog 14 #[.agg #[.int .i64 f.dep, .int .i64 f.cls, .bool f.made, .int .i64 f.tag, .string f.body], .string e.body] W fun r w' => r = .returned (.agg #[.int .i64 f.dep, .int .i64 f.cls, .bool f.made, .int .i64 f.tag, .string e.body]) ∧ Below W.heap.size W w') := fun W => filled_any f e.body W
  have hN : ∀ W, (binOp .neq 42 (.agg #[.int .i64 e.dep, .int .i64 e.cls, .bool e.made, .int .i64 e.tag, .string e.body]) (.agg #[.int .i64 f.dep, .int .i64 f.cls, .bool f.made, .int .i64 f.tag, .string e.body])).run Tryd.prog W = .ok (.bool false) W := fun W => by rw [ne_frm, hf]; rfl
  obtain ⟨a, c, hb, hrow, hc, hne⟩ := h
  have c0 : Wf.cell? ⟨g, 0, none⟩ = some (.slice a (e :: l).length c) := (hb.cell 0 (by simp)).1
  obtain ⟨b, off, rfl, x0, x1, x2, x3, x4⟩ := hrow 0 (by simp)
  simp only [Nat.zero_mul, Nat.add_zero, List.getElem_cons_zero] at x0 x1 x2 x3 x4
  have hl : (0 : Int) < ((e :: l).length : Int) := by simp
  have hgl : Hid (g < Wf.heap.size) := hb.lt
  have H : Hid (Box Wf g 67 #[.slice (some ⟨b, off, none⟩) (e :: l).length c] ∧ NdRow Wf (some ⟨b, off, none⟩) (e :: l) ∧ (e :: l).length ≤ c ∧ b < g) := ⟨hb, hrow, hc, hne _ rfl⟩
  have hBn' : Hid (Below Wf.heap.size Wf Wn) := hBn
  obtain ⟨n, hn⟩ : ∃ n, (e :: l).length = n := ⟨_, rfl⟩
  have hn' : Hid ((e :: l).length = n) := hn
  rw [hn] at c0 hl
  clear hb hrow hc hne hn hf hQ hQn hBn
  go_enter Tryd.func20, Tryd.ntmps20
  go_wp2_with fail
  refine hE.out.mono ?_
  rintro r w1 ⟨rfl, rfl⟩
  clear hE
  go_wp2_with fail
  have bN := Below.refl Wn.heap.size Wn
  obtain ⟨y0, y1, y2, y3, y4, z0, z1, z2, z3, z4⟩ := hK.out Wn bN
  clear x0 x1 x2 x3 x4
  go_region_held3 (fun w' => (w'.cell? ⟨w.heap.size, 0, none⟩ = some (.int .i64 f.dep) ∧ w'.cell? ⟨w.heap.size, 1, none⟩ = some (.int .i64 f.cls) ∧ w'.cell? ⟨w.heap.size, 2, none⟩ = some (.bool f.made) ∧ w'.cell? ⟨w.heap.size, 3, none⟩ = some (.int .i64 f.tag) ∧ w'.cell? ⟨w.heap.size, 4, none⟩ = some (.string f.body) ∧ w'.cell? ⟨w1.heap.size, 0, none⟩ = some (.int .i64 e.dep) ∧ w'.cell? ⟨w1.heap.size, 1, none⟩ = some (.int .i64 e.cls) ∧ w'.cell? ⟨w1.heap.size, 2, none⟩ = some (.bool e.made) ∧ w'.cell? ⟨w1.heap.size, 3, none⟩ = some (.int .i64 e.tag) ∧ w'.cell? ⟨w1.heap.size, 4, none⟩ = some (.string e.body)) ∧ Below Wn.heap.size Wn w')
    (first
      | exact ⟨hK.out _ bN.drew, bN.drew⟩
      | exact ⟨hK.out _ HB1, HB1⟩)
    (first
      | (go_at_call 14; refine (hF.out _).mono ?_; rintro e w2 ⟨rfl, hw2⟩; have HB1 : Below Wn.heap.size Wn w2 := (bN.drew).trans (hw2.mono (by first | exact Nat.le_refl _ | exact (bN.drew).size)); clear hw2))
  have oB : Hid (Below w1.heap.size w1 w2) := hBn'.out.trans (HB1.mono hBn'.out.size)
  have c2 : w2.cell? ⟨g, 0, none⟩ = some (.slice (some ⟨b, off, none⟩) n c) := (oB.out.cell hgl.out).trans c0
  have b2 := H.out.1.below oB.out
  have u2 : w2.frozen? ⟨g, 0, none⟩ = false := (b2.cell 0 (by simp)).2
  have v4 : w2.cell? ⟨w1.heap.size, 4, none⟩ = some (.string e.body) := (hK.out w2 HB1).2.2.2.2.2.2.2.2.2
  have n1 : 1 ≤ n := by omega
  have n2 : (1 : Int) ≤ (n : Int) := by omega
  have n3 : n ≤ c := by have := H.out.2.2.1; have := hn'.out; omega
  have n4 : (n : Int) ≤ (c : Int) := by omega
  have fM : Hid (Rdr (w2.setCell ⟨g, 0, none⟩ (.slice (some ⟨b, off + 5, none⟩) (n - 1) (c - 1))) g l) := rdr_more b2 (H.out.2.1.below oB.out) hn'.out n3 H.out.2.2.2
  have fL : Hid (n ≤ 1 → Rdr (w2.setCell ⟨g, 0, none⟩ (.slice (some ⟨b, off, none⟩) (n - 1) 0)) g l) := fun h => rdr_last b2 hn'.out h H.out.2.2.2
  have fC : Hid (∀ v, Ch (fun k => k = g) w (w2.setCell ⟨g, 0, none⟩ v)) := fun v => (Ch.of_below (hB.out.trans (oB.out.mono hB.out.size))).trans (Ch.set _ _ _ rfl)
  clear hF hK HB HB1 bN y0 y1 y2 y3 y4 z0 z1 z2 z3 z4 hN b2 c0
  go_wp2_with fail
  · go_ret2
    exact ⟨rfl, fL.out (by omega), fC.out _⟩
  · go_ret2
    exact ⟨rfl, fM.out, fC.out _⟩
end Vr
end Go.Proofs.YtoknbicfbeocbaaDoor

namespace Go.Proofs.YtoknbicfbeocbaaDoor
namespace Vr
open Go.RowKit
set_option linter.unusedVariables false

/-- What take answers, and what is left. -/
def tk (f : Nd) : List Nd → ByteArray × Bool × List Nd
  | [] => (⟨#[]⟩, false, [])
  | e :: r => if frm f e = true then (e.body, true, r) else (⟨#[]⟩, false, e :: r)
theorem tk_cons (f e : Nd) (r : List Nd) : tk f (e :: r) = if frm f e = true then (e.body, true, r) else (⟨#[]⟩, false, e :: r) := rfl
theorem take_any (g : Nat) (f : Nd) (l : List Nd) (w : World) (h : Rdr w g l) :
    Calls Tryd.prog 20 #[.pointer (some ⟨g, 0, none⟩), ndA f] w fun r w' => r = .returned (.tuple #[.string (tk f l).1, .bool (tk f l).2.1]) ∧ Rdr w' g (tk f l).2.2 ∧ Ch (fun k => k = g) w w' := by
  cases l with
  | nil => exact (take_none g f w h).mono (fun r w' ⟨h1, h2⟩ => ⟨h1, h.below h2, Ch.of_below h2⟩)
  | cons e l =>
    by_cases hf : frm f e = true
    · have e1 : tk f (e :: l) = (e.body, true, l) := by rw [tk_cons, if_pos hf]
      rw [e1]
      exact take_yes g f e l w h hf
    · have e1 : tk f (e :: l) = (⟨#[]⟩, false, e :: l) := by rw [tk_cons, if_neg hf]
      rw [e1]
      exact (take_other g f e l w h (by simpa using hf)).mono (fun r w' ⟨h1, h2⟩ => ⟨h1, h.below h2, Ch.of_below h2⟩)
/-- Nothing that a key ahead of it would take stands at the front. -/
def nxt (l : List Nd) : Prop := ∀ e r, l = e :: r → frm (nTag 0 ⟨#[]⟩) e = false ∧ frm (nTag 1 ⟨#[]⟩) e = false
theorem tk_rev (v : Bool) (l : List Nd) (h : nxt l) : tk (nTag 1 ⟨#[]⟩) (kV v ++ l) = (if v = true then ffB else ⟨#[]⟩, v, l) := by
  cases v with
  | true => rfl
  | false =>
    cases l with
    | nil => rfl
    | cons e r =>
      have h1 := (h e r rfl).2
      show tk _ (e :: r) = _
      rw [tk_cons, h1]
      rfl
set_option maxRecDepth 100000 in
set_option maxHeartbeats 1000000 in
theorem reverse_any (g : Nat) (v : Bool) (l : List Nd) (w : World) (h : Rdr w g (kV v ++ l)) (hl : nxt l) :
    Calls Tryd.prog 30 #[.pointer (some ⟨g, 0, none⟩)] w fun r w' => r = .returned (.tuple #[.bool v, .bool true]) ∧ Rdr w' g l ∧ Ch (fun k => k = g) w w' := by
  have hT : Hid (∀ W, Calls Tryd.prog 16 #[.int .i64 1] W fun r w' => r = .returned (.agg #[.int .i64 3, .int .i64 2, .bool false, .int .i64 1, .string ⟨#[]⟩]) ∧ Below W.heap.size W w') := fun W => tagged_any 1 W
  have hK : Hid (∀ W, Below w.heap.size w W → Calls Tryd.prog 20 #[.pointer (some ⟨g, 0, none⟩), .agg #[.int .i64 3, .int .i64 2, .bool false, .int .i64 1, .string ⟨#[]⟩]] W fun r w' => r = .returned (.tuple #[.string (if v = true then ffB else ⟨#[]⟩), .bool v]) ∧ Rdr w' g l ∧ Ch (fun k => k = g) W w') := fun W hb => by
    have := take_any g (nTag 1 ⟨#[]⟩) _ W (h.below hb)
    rw [tk_rev v l hl] at this
    exact this
  have hBo : Hid (∀ W, Calls Tryd.prog 41 #[.string ⟨#[255]⟩] W fun r w' => r = .returned (.tuple #[.bool true, .int .i64 0]) ∧ Below W.heap.size W w') := fun W => bool_any W
  clear h hl
  go_enter Tryd.func30, Tryd.ntmps30
  go_wp2_with fail
  refine (hT.out _).mono ?_
  rintro r w1 ⟨rfl, hb1⟩
  have hK1 := hK.out w1 hb1
  have HB1 : Hid (Below w.heap.size w w1) := hb1
  clear hT hK hb1
  go_wp2_with fail
  refine hK1.mono ?_
  rintro r w2 ⟨rfl, hR, hC⟩
  have H : Hid (Rdr w2 g l ∧ Ch (fun k => k = g) w w2) := ⟨hR, (Ch.of_below HB1.out).trans hC⟩
  clear hK1 hR hC HB1
  cases v with
  | false =>
    clear hBo
    go_wp2_with fail
    go_ret2
    exact ⟨rfl, H.out⟩
  | true =>
    simp only [if_true]
    go_wp2_with fail
    refine (hBo.out _).mono ?_
    rintro r w3 ⟨rfl, hb3⟩
    have H3 : Hid (Rdr w3 g l ∧ Ch (fun k => k = g) w w3) := ⟨H.out.1.below hb3, H.out.2.trans (Ch.of_below hb3)⟩
    clear hBo hb3 H
    go_wp2_with fail
    go_ret2
    exact ⟨rfl, H3.out⟩
theorem none_eq {s : ByteArray} (h : s.toList = []) : s = ⟨#[]⟩ := by
  rw [Lib.toList_data] at h
  obtain ⟨⟨d⟩⟩ := s
  simp at h
  subst h
  rfl
theorem tk_rule (r : ByteArray) (v : Bool) (l : List Nd) (h : nxt l) : tk (nTag 0 ⟨#[]⟩) (kR r ++ (kV v ++ l)) = (r, !(decide (r.toList = [])), kV v ++ l) := by
  unfold kR
  by_cases hr : r.toList = []
  · rw [if_pos hr, decide_eq_true hr]
    have hr' := none_eq hr
    subst hr'
    cases v with
    | true => rfl
    | false =>
      cases l with
      | nil => rfl
      | cons e q =>
        have h1 := (h e q rfl).1
        show tk _ (e :: q) = _
        rw [tk_cons, h1]
        rfl
  · rw [if_neg hr, decide_eq_false hr]
    rfl
end Vr
end Go.Proofs.YtoknbicfbeocbaaDoor

namespace Go.Proofs.YtoknbicfbeocbaaDoor
namespace Vr
open Go.RowKit
set_option linter.unusedVariables false

theorem results_ct {fn : Func} {t u : Tmp} {ty : TypeId} (h : fn.results = #[.cell t ty, .tmp u]) (tmps : Array Value) (P : Program) (w : World) (p : Addr) (x : Value) (hp : tmps.getD t undef = .pointer (some p)) (hl : (loadVar ty p).run P w = .ok x w) :
    (results fn tmps).run P w = .ok (.tuple #[x, tmps.getD u undef]) w := by
  have hp' : tmps[t]?.getD undef = .pointer (some p) := by rw [← hp]; simp
  simp [results, h, hp', asAddr, hl, Result.andThen]
theorem ld_key {W : World} {g : Nat} {a b c : Value} (h : Box W g 25 #[a, b, c]) : (loadVar 25 ⟨g, 0, none⟩).run Tryd.prog W = .ok (.agg #[a, b, c]) W :=
  run_loadVar_row W g 25 25 _ (0, 0) _ h Tryd.underlying25 rfl (by kernel_rfl)
theorem ch_newer {ks : Nat → Prop} {w W : World} (h : Ch ks w W) (p : Addr) (v : Value) (hp : w.heap.size ≤ p.block) : Ch ks w (W.setCell p v) :=
  ⟨h.1, h.2.1, h.2.2.1, by rw [World.size_setCell]; exact h.2.2.2.1, fun k hk hn => (Below.heap_setCell _ _ _ _ (by omega)).trans (h.2.2.2.2 k hk hn)⟩
set_option maxRecDepth 100000 in
set_option maxHeartbeats 2000000 in
theorem key_any (g : Nat) (k : Ky) (l : List Nd) (w : World) (h : Rdr w g (kN k ++ l)) (hl : nxt l) (u1 : utf k.1 = true) (u2 : utf k.2.1 = true) (m1 : k.1.size ≤ maxLen) (m2 : k.2.1.size ≤ maxLen) :
    Calls Tryd.prog 22 #[.pointer (some ⟨g, 0, none⟩)] w fun r w' => r = .returned (.tuple #[.agg #[.string k.1, .string k.2.1, .bool k.2.2], .bool true]) ∧ Rdr w' g l ∧ Ch (fun k => k = g) w w' := by
  obtain ⟨d, r, v⟩ := k
  obtain ⟨Wk, hWk⟩ : ∃ W, w.alloc (.cells #[.string ⟨#[]⟩, .string ⟨#[]⟩, .bool false] 25) = W := ⟨_, rfl⟩
  have hgl : g < w.heap.size := by obtain ⟨a, c, hb, _⟩ := h; exact hb.lt
  have hX : Hid (Below w.heap.size w Wk ∧ Box Wk w.heap.size 25 #[.string ⟨#[]⟩, .string ⟨#[]⟩, .bool false] ∧ g < w.heap.size) := by
    rw [← hWk]
    exact ⟨(Below.refl _ _).alloc (Nat.le_refl _) _, Box.new _ _ _, hgl⟩
  have h0 : Hid (Rdr Wk g (kN (d, r, v) ++ l)) := h.below hX.out.1
  have hS : Hid (∀ W, Calls Tryd.prog 12 #[.int .i64 2] W fun r w' => r = .returned (.agg #[.int .i64 2, .int .i64 0, .bool true, .int .i64 16, .string ⟨#[]⟩]) ∧ Below W.heap.size W w') := fun W => sequence_any 2 W
  have hO : Hid (∀ W, Calls Tryd.prog 15 #[.int .i64 3] W fun r w' => r = .returned (.agg #[.int .i64 3, .int .i64 0, .bool false, .int .i64 4, .string ⟨#[]⟩]) ∧ Below W.heap.size W w') := fun W => octets_any 3 W
  have hT : Hid (∀ W, Calls Tryd.prog 16 #[.int .i64 0] W fun r w' => r = .returned (.agg #[.int .i64 3, .int .i64 2, .bool false, .int .i64 0, .string ⟨#[]⟩]) ∧ Below W.heap.size W w') := fun W => tagged_any 0 W
  have k1 : Hid (∀ W, Rdr W g (kN (d, r, v) ++ l) → Calls Tryd.prog 20 #[.pointer (some ⟨g, 0, none⟩), .agg #[.int .i64 2, .int .i64 0, .bool true, .int .i64 16, .string ⟨#[]⟩]] W fun e w' => e = .returned (.tuple #[.string ⟨#[]⟩, .bool true]) ∧ Rdr w' g (nOct 3 d :: (kR r ++ (kV v ++ l))) ∧ Ch (fun k => k = g) W w') := fun W h => by
    have e : kN (d, r, v) ++ l = nSeq 2 :: nOct 3 d :: (kR r ++ (kV v ++ l)) := by unfold kN; simp
    rw [e] at h
    exact take_any g (nSeq 2) _ W h
  have k2 : Hid (∀ W, Rdr W g (nOct 3 d :: (kR r ++ (kV v ++ l))) → Calls Tryd.prog 20 #[.pointer (some ⟨g, 0, none⟩), .agg #[.int .i64 3, .int .i64 0, .bool false, .int .i64 4, .string ⟨#[]⟩]] W fun e w' => e = .returned (.tuple #[.string d, .bool true]) ∧ Rdr w' g (kR r ++ (kV v ++ l)) ∧ Ch (fun k => k = g) W w') := fun W h => take_any g (nOct 3 ⟨#[]⟩) _ W h
  have k3 : Hid (∀ W, Rdr W g (kR r ++ (kV v ++ l)) → Calls Tryd.prog 20 #[.pointer (some ⟨g, 0, none⟩), .agg #[.int .i64 3, .int .i64 2, .bool false, .int .i64 0, .string ⟨#[]⟩]] W fun e w' => e = .returned (.tuple #[.string r, .bool (!(decide (r.toList = [])))]) ∧ Rdr w' g (kV v ++ l) ∧ Ch (fun k => k = g) W w') := fun W h => by
    have := take_any g (nTag 0 ⟨#[]⟩) _ W h
    rw [tk_rule r v l hl] at this
    exact this
  have k4 : Hid (∀ W, Rdr W g (kV v ++ l) → Calls Tryd.prog 30 #[.pointer (some ⟨g, 0, none⟩)] W fun e w' => e = .returned (.tuple #[.bool v, .bool true]) ∧ Rdr w' g l ∧ Ch (fun k => k = g) W w') := fun W h => reverse_any g v l W h hl
  have k5 : Hid (∀ W, Calls Tryd.prog 13 #[.string d] W fun e w' => e = .returned (.bool true) ∧ w' = W) := fun W => by have := isUTF8_any d W m1; rw [u1] at this; exact this
  have k6 : Hid (∀ W, Calls Tryd.prog 13 #[.string r] W fun e w' => e = .returned (.bool true) ∧ w' = W) := fun W => by have := isUTF8_any r W m2; rw [u2] at this; exact this
  have hq : (r.toList == []) = decide (r.toList = []) := by rw [Bool.eq_iff_iff]; simp
  generalize decide (r.toList = []) = qb at hq k3
  have hq' : Hid ((r.toList == []) = qb) := hq
  clear h hl u1 u2 m1 m2 hgl hq
  go_enter Tryd.func22, Tryd.ntmps22
  go_upto_region 1 with fail
  have hq0 : Hid (w.heap.size = w.heap.size) := rfl
  clear hWk
  generalize hqq : w.heap.size = q at hX ⊢
  have hqq' : Hid (w.heap.size = q) := hqq
  clear hqq hq0
  go_wp2_with fail
  refine (hS.out _).mono ?_
  rintro e w1 ⟨rfl, hb1⟩
  have K1 := k1.out w1 (h0.out.below hb1)
  have C1 : Hid (Ch (fun k => k = g) Wk w1) := Ch.of_below hb1
  clear hS k1 hb1 h0
  go_wp2_with fail
  refine K1.mono ?_
  rintro e w2 ⟨rfl, hR, hC⟩
  have H2 : Hid (Rdr w2 g (nOct 3 d :: (kR r ++ (kV v ++ l))) ∧ Ch (fun k => k = g) Wk w2) := ⟨hR, C1.out.trans hC⟩
  clear K1 hR hC C1
  go_wp2_with fail
  refine (hO.out _).mono ?_
  rintro e w3 ⟨rfl, hb3⟩
  have K2 := k2.out w3 (H2.out.1.below hb3)
  have C3 : Hid (Ch (fun k => k = g) Wk w3) := H2.out.2.trans (Ch.of_below hb3)
  clear hO k2 hb3 H2
  go_wp2_with fail
  refine K2.mono ?_
  rintro e w4 ⟨rfl, hR, hC⟩
  have H4 : Hid (Rdr w4 g (kR r ++ (kV v ++ l)) ∧ Ch (fun k => k = g) Wk w4) := ⟨hR, C3.out.trans hC⟩
  clear K2 hR hC C3
  go_wp2_with fail
  refine (hT.out _).mono ?_
  rintro e w5 ⟨rfl, hb5⟩
  have K3 := k3.out w5 (H4.out.1.below hb5)
  have C5 : Hid (Ch (fun k => k = g) Wk w5) := H4.out.2.trans (Ch.of_below hb5)
  clear hT k3 hb5 H4
  go_wp2_with fail
  refine K3.mono ?_
  rintro e w6 ⟨rfl, hR, hC⟩
  have C6 : Hid (Ch (fun k => k = g) Wk w6) := C5.out.trans hC
  have K4 := k4.out w6 hR
  clear K3 hR hC C5 k4
  go_wp2_with fail
  refine K4.mono ?_
  rintro e w7 ⟨rfl, hR, hC⟩
  have H7 : Hid (Rdr w7 g l ∧ Ch (fun k => k = g) Wk w7) := ⟨hR, C6.out.trans hC⟩
  clear K4 hR hC C6
  have b7 : Hid (Box w7 q 25 #[.string ⟨#[]⟩, .string ⟨#[]⟩, .bool false]) := by
    refine hX.out.2.1.of (H7.out.2.2.2.2.2 q hX.out.2.1.lt (fun e => ?_))
    have := hX.out.2.2
    have := hqq'.out
    omega
  have hfin : Hid (Rdr (((w7.setCell ⟨q, 0, none⟩ (.string d)).setCell ⟨q, 1, none⟩ (.string r)).setCell ⟨q, 2, none⟩ (.bool v)) g l ∧ Ch (fun k => k = g) w (((w7.setCell ⟨q, 0, none⟩ (.string d)).setCell ⟨q, 1, none⟩ (.string r)).setCell ⟨q, 2, none⟩ (.bool v)) ∧ Box (((w7.setCell ⟨q, 0, none⟩ (.string d)).setCell ⟨q, 1, none⟩ (.string r)).setCell ⟨q, 2, none⟩ (.bool v)) q 25 #[.string d, .string r, .bool v]) := by
    have hs := hqq'.out
    have hg := hX.out.2.2
    refine ⟨((H7.out.1.far q 0 _ (by omega)).far q 1 _ (by omega)).far q 2 _ (by omega), ch_newer (ch_newer (ch_newer ((Ch.of_below (hs ▸ hX.out.1)).trans H7.out.2) _ _ (by show w.heap.size ≤ q; omega)) _ _ (by show w.heap.size ≤ q; omega)) _ _ (by show w.heap.size ≤ q; omega), ((b7.out.set 0 _).set 1 _).set 2 _⟩
  obtain ⟨c0, z0⟩ := b7.out.cell 0 (by simp)
  obtain ⟨c1, z1⟩ := b7.out.cell 1 (by simp)
  obtain ⟨c2, z2⟩ := b7.out.cell 2 (by simp)
  simp only [List.getElem_toArray, List.getElem_cons_zero, List.getElem_cons_succ] at c0 c1 c2
  have hq1 := hq'.out
  clear hX b7 H7 hqq' hq'
  cases qb
  all_goals
    go_wp2_with fail
    refine (k5.out _).mono ?_
    rintro e w8 ⟨rfl, rfl⟩
    clear k5
    go_wp2_with fail
    refine (k6.out _).mono ?_
    rintro e w9 ⟨rfl, rfl⟩
    clear k6
    go_wp2_with fail
    exact bodyPost_ret (results_ct rfl _ _ _ _ _ rfl (ld_key hfin.out.2.2)) rfl ⟨rfl, hfin.out.1, hfin.out.2.1⟩
end Vr
end Go.Proofs.YtoknbicfbeocbaaDoor
