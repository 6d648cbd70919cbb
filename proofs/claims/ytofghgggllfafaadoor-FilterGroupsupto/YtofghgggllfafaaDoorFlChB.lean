import Derived.Test.YtofghgggllfafaaDoorFlChA
namespace Go.Proofs.YtofghgggllfafaaDoor
open Go.RowKit
open TextMath
set_option linter.unusedVariables false

theorem set9_below {w W : World} {B g : Nat} {a0 a1 a2 a3 a4 a5 a6 a7 a8 : Value} (h : Below B w W) (hg : B ≤ g) : Below B w (((((((((W.setCell ⟨g, 0, none⟩ a0).setCell ⟨g, 1, none⟩ a1).setCell ⟨g, 2, none⟩ a2).setCell ⟨g, 3, none⟩ a3).setCell ⟨g, 4, none⟩ a4).setCell ⟨g, 5, none⟩ a5).setCell ⟨g, 6, none⟩ a6).setCell ⟨g, 7, none⟩ a7).setCell ⟨g, 8, none⟩ a8) :=
  Below.setCell (Below.setCell (Below.setCell (Below.setCell (Below.setCell (Below.setCell (Below.setCell (Below.setCell (Below.setCell h hg _) hg _) hg _) hg _) hg _) hg _) hg _) hg _) hg _
theorem set9_box {W : World} {g : Nat} {t : TypeId} {z0 z1 z2 z3 z4 z5 z6 z7 z8 a0 a1 a2 a3 a4 a5 a6 a7 a8 : Value} (h : Box W g t #[z0, z1, z2, z3, z4, z5, z6, z7, z8]) : Box (((((((((W.setCell ⟨g, 0, none⟩ a0).setCell ⟨g, 1, none⟩ a1).setCell ⟨g, 2, none⟩ a2).setCell ⟨g, 3, none⟩ a3).setCell ⟨g, 4, none⟩ a4).setCell ⟨g, 5, none⟩ a5).setCell ⟨g, 6, none⟩ a6).setCell ⟨g, 7, none⟩ a7).setCell ⟨g, 8, none⟩ a8) g t #[a0, a1, a2, a3, a4, a5, a6, a7, a8] := by
  have h0 : Box (W.setCell ⟨g, 0, none⟩ a0) g t #[a0, z1, z2, z3, z4, z5, z6, z7, z8] := h.set 0 a0
  have h1 : Box ((W.setCell ⟨g, 0, none⟩ a0).setCell ⟨g, 1, none⟩ a1) g t #[a0, a1, z2, z3, z4, z5, z6, z7, z8] := h0.set 1 a1
  have h2 : Box (((W.setCell ⟨g, 0, none⟩ a0).setCell ⟨g, 1, none⟩ a1).setCell ⟨g, 2, none⟩ a2) g t #[a0, a1, a2, z3, z4, z5, z6, z7, z8] := h1.set 2 a2
  have h3 : Box ((((W.setCell ⟨g, 0, none⟩ a0).setCell ⟨g, 1, none⟩ a1).setCell ⟨g, 2, none⟩ a2).setCell ⟨g, 3, none⟩ a3) g t #[a0, a1, a2, a3, z4, z5, z6, z7, z8] := h2.set 3 a3
  have h4 : Box (((((W.setCell ⟨g, 0, none⟩ a0).setCell ⟨g, 1, none⟩ a1).setCell ⟨g, 2, none⟩ a2).setCell ⟨g, 3, none⟩ a3).setCell ⟨g, 4, none⟩ a4) g t #[a0, a1, a2, a3, a4, z5, z6, z7, z8] := h3.set 4 a4
  have h5 : Box ((((((W.setCell ⟨g, 0, none⟩ a0).setCell ⟨g, 1, none⟩ a1).setCell ⟨g, 2, none⟩ a2).setCell ⟨g, 3, none⟩ a3).setCell ⟨g, 4, none⟩ a4).setCell ⟨g, 5, none⟩ a5) g t #[a0, a1, a2, a3, a4, a5, z6, z7, z8] := h4.set 5 a5
  have h6 : Box (((((((W.setCell ⟨g, 0, none⟩ a0).setCell ⟨g, 1, none⟩ a1).setCell ⟨g, 2, none⟩ a2).setCell ⟨g, 3, none⟩ a3).setCell ⟨g, 4, none⟩ a4).setCell ⟨g, 5, none⟩ a5).setCell ⟨g, 6, none⟩ a6) g t #[a0, a1, a2, a3, a4, a5, a6, z7, z8] := h5.set 6 a6
  have h7 : Box ((((((((W.setCell ⟨g, 0, none⟩ a0).setCell ⟨g, 1, none⟩ a1).setCell ⟨g, 2, none⟩ a2).setCell ⟨g, 3, none⟩ a3).setCell ⟨g, 4, none⟩ a4).setCell ⟨g, 5, none⟩ a5).setCell ⟨g, 6, none⟩ a6).setCell ⟨g, 7, none⟩ a7) g t #[a0, a1, a2, a3, a4, a5, a6, a7, z8] := h6.set 7 a7
  have h8 : Box (((((((((W.setCell ⟨g, 0, none⟩ a0).setCell ⟨g, 1, none⟩ a1).setCell ⟨g, 2, none⟩ a2).setCell ⟨g, 3, none⟩ a3).setCell ⟨g, 4, none⟩ a4).setCell ⟨g, 5, none⟩ a5).setCell ⟨g, 6, none⟩ a6).setCell ⟨g, 7, none⟩ a7).setCell ⟨g, 8, none⟩ a8) g t #[a0, a1, a2, a3, a4, a5, a6, a7, a8] := h7.set 8 a8
  exact h8
theorem ld_nod {W : World} {g : Nat} {d o : Int} {s v i : ByteArray} {a : Option Addr} {m n : Nat} {f r : ByteArray} {b : Bool} (h : Box W g 38 (nB d o s v i a m n f r b)) : (loadVar 38 ⟨g, 0, none⟩).run Tryd.prog W = .ok (.agg (nB d o s v i a m n f r b)) W :=
  run_loadVar_row W g 38 38 _ (0, 0) _ h Tryd.underlying38 rfl (by kernel_rfl)

set_option maxRecDepth 100000 in
set_option maxHeartbeats 2000000 in
theorem wo0 (d : Int) (s v i : ByteArray) (a : Option Addr) (m n : Nat) (f r : ByteArray) (b : Bool) (w : World) :
    Calls Tryd.prog 38 #[.agg #[.int .i64 d, .int .i64 0, .string s, .string v, .string i, .slice a m n, .string f, .string r, .bool b]] w fun e w' => e = .returned (.agg #[.int .i64 d, .int .i64 0, .string s, .string v, .string i, .slice a m n, .string f, .string r, .bool b]) ∧ Below w.heap.size w w' := by
  obtain ⟨Wa, hWa⟩ : ∃ W, w.alloc (.cells #[.int .i64 d, .int .i64 0, .string s, .string v, .string i, .slice a m n, .string f, .string r, .bool b] 38) = W := ⟨_, rfl⟩
  obtain ⟨Wb, hWb⟩ : ∃ W, Wa.alloc (.cells #[.int .i64 0, .int .i64 0, .string ⟨#[]⟩, .string ⟨#[]⟩, .string ⟨#[]⟩, .slice none 0 0, .string ⟨#[]⟩, .string ⟨#[]⟩, .bool false] 38) = W := ⟨_, rfl⟩
  have na : Wa.heap.size = w.heap.size + 1 := by rw [← hWa]; simp
  have p : Box Wb w.heap.size 38 #[.int .i64 d, .int .i64 0, .string s, .string v, .string i, .slice a m n, .string f, .string r, .bool b] := by rw [← hWb]; exact (show Box Wa w.heap.size 38 #[.int .i64 d, .int .i64 0, .string s, .string v, .string i, .slice a m n, .string f, .string r, .bool b] by rw [← hWa]; exact Box.new _ _ _).past _
  have q : Box Wb (w.heap.size + 1) 38 #[.int .i64 0, .int .i64 0, .string ⟨#[]⟩, .string ⟨#[]⟩, .string ⟨#[]⟩, .slice none 0 0, .string ⟨#[]⟩, .string ⟨#[]⟩, .bool false] := by rw [← hWb, ← na]; exact Box.new _ _ _
  have hB : Below w.heap.size w Wb := by
    rw [← hWb, ← hWa]
    exact ((Below.refl _ _).alloc (Nat.le_refl _) _).alloc (by simp) _
  rw [← hWa] at hWb
  have hWb' : Hid ((w.alloc (.cells #[.int .i64 d, .int .i64 0, .string s, .string v, .string i, .slice a m n, .string f, .string r, .bool b] 38)).alloc (.cells #[.int .i64 0, .int .i64 0, .string ⟨#[]⟩, .string ⟨#[]⟩, .string ⟨#[]⟩, .slice none 0 0, .string ⟨#[]⟩, .string ⟨#[]⟩, .bool false] 38) = Wb) := hWb
  obtain ⟨Wc, hWc⟩ : ∃ W, Wb = W := ⟨_, rfl⟩
  have pc : Box Wc w.heap.size 38 #[.int .i64 d, .int .i64 0, .string s, .string v, .string i, .slice a m n, .string f, .string r, .bool b] := by
    rw [← hWc]
    exact p
  have qc : Box Wc (w.heap.size + 1) 38 #[.int .i64 0, .int .i64 0, .string ⟨#[]⟩, .string ⟨#[]⟩, .string ⟨#[]⟩, .slice none 0 0, .string ⟨#[]⟩, .string ⟨#[]⟩, .bool false] := by rw [← hWc]; exact q.of (by rfl)
  have hBc : Below w.heap.size w Wc := by rw [← hWc]; exact hB
  obtain ⟨Wz, hWz⟩ : ∃ W, (((((((((Wc.setCell ⟨w.heap.size + 1, 0, none⟩ (.int .i64 d)).setCell ⟨w.heap.size + 1, 1, none⟩ (.int .i64 0)).setCell ⟨w.heap.size + 1, 2, none⟩ (.string s)).setCell ⟨w.heap.size + 1, 3, none⟩ (.string v)).setCell ⟨w.heap.size + 1, 4, none⟩ (.string i)).setCell ⟨w.heap.size + 1, 5, none⟩ (.slice a m n)).setCell ⟨w.heap.size + 1, 6, none⟩ (.string f)).setCell ⟨w.heap.size + 1, 7, none⟩ (.string r)).setCell ⟨w.heap.size + 1, 8, none⟩ (.bool b)) = W := ⟨_, rfl⟩
  have hres : Hid (Box Wz (w.heap.size + 1) 38 #[.int .i64 d, .int .i64 0, .string s, .string v, .string i, .slice a m n, .string f, .string r, .bool b]) := by rw [← hWz]; exact set9_box qc
  have hBz : Hid (Below w.heap.size w Wz) := by rw [← hWz]; exact set9_below hBc (by omega)
  have hWc' : Hid (Wb = Wc) := hWc
  have hWz' : Hid ((((((((((Wc.setCell ⟨w.heap.size + 1, 0, none⟩ (.int .i64 d)).setCell ⟨w.heap.size + 1, 1, none⟩ (.int .i64 0)).setCell ⟨w.heap.size + 1, 2, none⟩ (.string s)).setCell ⟨w.heap.size + 1, 3, none⟩ (.string v)).setCell ⟨w.heap.size + 1, 4, none⟩ (.string i)).setCell ⟨w.heap.size + 1, 5, none⟩ (.slice a m n)).setCell ⟨w.heap.size + 1, 6, none⟩ (.string f)).setCell ⟨w.heap.size + 1, 7, none⟩ (.string r)).setCell ⟨w.heap.size + 1, 8, none⟩ (.bool b)) = Wz) := hWz
  have KC : Hid (Wc.cell? ⟨w.heap.size, 0, none⟩ = some (.int .i64 d) ∧ Wc.cell? ⟨w.heap.size + 1, 0, none⟩ = some (.int .i64 0) ∧ Wc.frozen? ⟨w.heap.size + 1, 0, none⟩ = false ∧ Wc.cell? ⟨w.heap.size, 1, none⟩ = some (.int .i64 0) ∧ Wc.cell? ⟨w.heap.size + 1, 1, none⟩ = some (.int .i64 0) ∧ Wc.frozen? ⟨w.heap.size + 1, 1, none⟩ = false ∧ Wc.cell? ⟨w.heap.size, 2, none⟩ = some (.string s) ∧ Wc.cell? ⟨w.heap.size + 1, 2, none⟩ = some (.string ⟨#[]⟩) ∧ Wc.frozen? ⟨w.heap.size + 1, 2, none⟩ = false ∧ Wc.cell? ⟨w.heap.size, 3, none⟩ = some (.string v) ∧ Wc.cell? ⟨w.heap.size + 1, 3, none⟩ = some (.string ⟨#[]⟩) ∧ Wc.frozen? ⟨w.heap.size + 1, 3, none⟩ = false ∧ Wc.cell? ⟨w.heap.size, 4, none⟩ = some (.string i) ∧ Wc.cell? ⟨w.heap.size + 1, 4, none⟩ = some (.string ⟨#[]⟩) ∧ Wc.frozen? ⟨w.heap.size + 1, 4, none⟩ = false ∧ Wc.cell? ⟨w.heap.size, 5, none⟩ = some (.slice a m n) ∧ Wc.cell? ⟨w.heap.size + 1, 5, none⟩ = some (.slice none 0 0) ∧ Wc.frozen? ⟨w.heap.size + 1, 5, none⟩ = false ∧ Wc.cell? ⟨w.heap.size, 6, none⟩ = some (.string f) ∧ Wc.cell? ⟨w.heap.size + 1, 6, none⟩ = some (.string ⟨#[]⟩) ∧ Wc.frozen? ⟨w.heap.size + 1, 6, none⟩ = false ∧ Wc.cell? ⟨w.heap.size, 7, none⟩ = some (.string r) ∧ Wc.cell? ⟨w.heap.size + 1, 7, none⟩ = some (.string ⟨#[]⟩) ∧ Wc.frozen? ⟨w.heap.size + 1, 7, none⟩ = false ∧ Wc.cell? ⟨w.heap.size, 8, none⟩ = some (.bool b) ∧ Wc.cell? ⟨w.heap.size + 1, 8, none⟩ = some (.bool false) ∧ Wc.frozen? ⟨w.heap.size + 1, 8, none⟩ = false) := ⟨(pc.cell 0 (by simp)).1, (qc.cell 0 (by simp)).1, (qc.cell 0 (by simp)).2, (pc.cell 1 (by simp)).1, (qc.cell 1 (by simp)).1, (qc.cell 1 (by simp)).2, (pc.cell 2 (by simp)).1, (qc.cell 2 (by simp)).1, (qc.cell 2 (by simp)).2, (pc.cell 3 (by simp)).1, (qc.cell 3 (by simp)).1, (qc.cell 3 (by simp)).2, (pc.cell 4 (by simp)).1, (qc.cell 4 (by simp)).1, (qc.cell 4 (by simp)).2, (pc.cell 5 (by simp)).1, (qc.cell 5 (by simp)).1, (qc.cell 5 (by simp)).2, (pc.cell 6 (by simp)).1, (qc.cell 6 (by simp)).1, (qc.cell 6 (by simp)).2, (pc.cell 7 (by simp)).1, (qc.cell 7 (by simp)).1, (qc.cell 7 (by simp)).2, (pc.cell 8 (by simp)).1, (qc.cell 8 (by simp)).1, (qc.cell 8 (by simp)).2⟩
  have KB : Hid (Wb.cell? ⟨w.heap.size, 0, none⟩ = some (.int .i64 d) ∧ Wb.frozen? ⟨w.heap.size, 0, none⟩ = false ∧ Wb.cell? ⟨w.heap.size, 1, none⟩ = some (.int .i64 0) ∧ Wb.frozen? ⟨w.heap.size, 1, none⟩ = false ∧ Wb.cell? ⟨w.heap.size, 2, none⟩ = some (.string s) ∧ Wb.frozen? ⟨w.heap.size, 2, none⟩ = false ∧ Wb.cell? ⟨w.heap.size, 3, none⟩ = some (.string v) ∧ Wb.frozen? ⟨w.heap.size, 3, none⟩ = false ∧ Wb.cell? ⟨w.heap.size, 4, none⟩ = some (.string i) ∧ Wb.frozen? ⟨w.heap.size, 4, none⟩ = false ∧ Wb.cell? ⟨w.heap.size, 5, none⟩ = some (.slice a m n) ∧ Wb.frozen? ⟨w.heap.size, 5, none⟩ = false ∧ Wb.cell? ⟨w.heap.size, 6, none⟩ = some (.string f) ∧ Wb.frozen? ⟨w.heap.size, 6, none⟩ = false ∧ Wb.cell? ⟨w.heap.size, 7, none⟩ = some (.string r) ∧ Wb.frozen? ⟨w.heap.size, 7, none⟩ = false ∧ Wb.cell? ⟨w.heap.size, 8, none⟩ = some (.bool b) ∧ Wb.frozen? ⟨w.heap.size, 8, none⟩ = false) := ⟨(p.cell 0 (by simp)).1, (p.cell 0 (by simp)).2, (p.cell 1 (by simp)).1, (p.cell 1 (by simp)).2, (p.cell 2 (by simp)).1, (p.cell 2 (by simp)).2, (p.cell 3 (by simp)).1, (p.cell 3 (by simp)).2, (p.cell 4 (by simp)).1, (p.cell 4 (by simp)).2, (p.cell 5 (by simp)).1, (p.cell 5 (by simp)).2, (p.cell 6 (by simp)).1, (p.cell 6 (by simp)).2, (p.cell 7 (by simp)).1, (p.cell 7 (by simp)).2, (p.cell 8 (by simp)).1, (p.cell 8 (by simp)).2⟩
  clear hWb hWc hWz hBc qc pc hB q p na hWa
  have hWb := hWb'.out
  go_enter Tryd.func38, Tryd.ntmps38
  go_upto_region 1 with fail
  clear hWb
  obtain ⟨b0, y0, b1, y1, b2, y2, b3, y3, b4, y4, b5, y5, b6, y6, b7, y7, b8, y8⟩ := KB.out
  go_upto_region 13 with fail
  rw [hWc'.out]
  clear b0 y0 b1 y1 b2 y2 b3 y3 b4 y4 b5 y5 b6 y6 b7 y7 b8 y8
  obtain ⟨c0, e0, z0, c1, e1, z1, c2, e2, z2, c3, e3, z3, c4, e4, z4, c5, e5, z5, c6, e6, z6, c7, e7, z7, c8, e8, z8⟩ := KC.out
  go_wp2_with fail
  rw [hWz'.out]
  exact bodyPost_ret (results_cell _ _ _ rfl _ _ _ _ _ rfl (ld_nod hres.out)) rfl ⟨rfl, hBz.out⟩

set_option maxRecDepth 100000 in
set_option maxHeartbeats 2000000 in
theorem wo1 (d : Int) (s v i : ByteArray) (a : Option Addr) (m n : Nat) (f r : ByteArray) (b : Bool) (w : World) :
    Calls Tryd.prog 38 #[.agg #[.int .i64 d, .int .i64 1, .string s, .string v, .string i, .slice a m n, .string f, .string r, .bool b]] w fun e w' => e = .returned (.agg #[.int .i64 d, .int .i64 1, .string s, .string v, .string i, .slice a m n, .string f, .string r, .bool b]) ∧ Below w.heap.size w w' := by
  obtain ⟨Wa, hWa⟩ : ∃ W, w.alloc (.cells #[.int .i64 d, .int .i64 1, .string s, .string v, .string i, .slice a m n, .string f, .string r, .bool b] 38) = W := ⟨_, rfl⟩
  obtain ⟨Wb, hWb⟩ : ∃ W, Wa.alloc (.cells #[.int .i64 0, .int .i64 0, .string ⟨#[]⟩, .string ⟨#[]⟩, .string ⟨#[]⟩, .slice none 0 0, .string ⟨#[]⟩, .string ⟨#[]⟩, .bool false] 38) = W := ⟨_, rfl⟩
  have na : Wa.heap.size = w.heap.size + 1 := by rw [← hWa]; simp
  have p : Box Wb w.heap.size 38 #[.int .i64 d, .int .i64 1, .string s, .string v, .string i, .slice a m n, .string f, .string r, .bool b] := by rw [← hWb]; exact (show Box Wa w.heap.size 38 #[.int .i64 d, .int .i64 1, .string s, .string v, .string i, .slice a m n, .string f, .string r, .bool b] by rw [← hWa]; exact Box.new _ _ _).past _
  have q : Box Wb (w.heap.size + 1) 38 #[.int .i64 0, .int .i64 0, .string ⟨#[]⟩, .string ⟨#[]⟩, .string ⟨#[]⟩, .slice none 0 0, .string ⟨#[]⟩, .string ⟨#[]⟩, .bool false] := by rw [← hWb, ← na]; exact Box.new _ _ _
  have hB : Below w.heap.size w Wb := by
    rw [← hWb, ← hWa]
    exact ((Below.refl _ _).alloc (Nat.le_refl _) _).alloc (by simp) _
  rw [← hWa] at hWb
  have hWb' : Hid ((w.alloc (.cells #[.int .i64 d, .int .i64 1, .string s, .string v, .string i, .slice a m n, .string f, .string r, .bool b] 38)).alloc (.cells #[.int .i64 0, .int .i64 0, .string ⟨#[]⟩, .string ⟨#[]⟩, .string ⟨#[]⟩, .slice none 0 0, .string ⟨#[]⟩, .string ⟨#[]⟩, .bool false] 38) = Wb) := hWb
  obtain ⟨Wc, hWc⟩ : ∃ W, Wb = W := ⟨_, rfl⟩
  have pc : Box Wc w.heap.size 38 #[.int .i64 d, .int .i64 1, .string s, .string v, .string i, .slice a m n, .string f, .string r, .bool b] := by
    rw [← hWc]
    exact p
  have qc : Box Wc (w.heap.size + 1) 38 #[.int .i64 0, .int .i64 0, .string ⟨#[]⟩, .string ⟨#[]⟩, .string ⟨#[]⟩, .slice none 0 0, .string ⟨#[]⟩, .string ⟨#[]⟩, .bool false] := by rw [← hWc]; exact q.of (by rfl)
  have hBc : Below w.heap.size w Wc := by rw [← hWc]; exact hB
  obtain ⟨Wz, hWz⟩ : ∃ W, (((((((((Wc.setCell ⟨w.heap.size + 1, 0, none⟩ (.int .i64 d)).setCell ⟨w.heap.size + 1, 1, none⟩ (.int .i64 1)).setCell ⟨w.heap.size + 1, 2, none⟩ (.string s)).setCell ⟨w.heap.size + 1, 3, none⟩ (.string v)).setCell ⟨w.heap.size + 1, 4, none⟩ (.string i)).setCell ⟨w.heap.size + 1, 5, none⟩ (.slice a m n)).setCell ⟨w.heap.size + 1, 6, none⟩ (.string f)).setCell ⟨w.heap.size + 1, 7, none⟩ (.string r)).setCell ⟨w.heap.size + 1, 8, none⟩ (.bool b)) = W := ⟨_, rfl⟩
  have hres : Hid (Box Wz (w.heap.size + 1) 38 #[.int .i64 d, .int .i64 1, .string s, .string v, .string i, .slice a m n, .string f, .string r, .bool b]) := by rw [← hWz]; exact set9_box qc
  have hBz : Hid (Below w.heap.size w Wz) := by rw [← hWz]; exact set9_below hBc (by omega)
  have hWc' : Hid (Wb = Wc) := hWc
  have hWz' : Hid ((((((((((Wc.setCell ⟨w.heap.size + 1, 0, none⟩ (.int .i64 d)).setCell ⟨w.heap.size + 1, 1, none⟩ (.int .i64 1)).setCell ⟨w.heap.size + 1, 2, none⟩ (.string s)).setCell ⟨w.heap.size + 1, 3, none⟩ (.string v)).setCell ⟨w.heap.size + 1, 4, none⟩ (.string i)).setCell ⟨w.heap.size + 1, 5, none⟩ (.slice a m n)).setCell ⟨w.heap.size + 1, 6, none⟩ (.string f)).setCell ⟨w.heap.size + 1, 7, none⟩ (.string r)).setCell ⟨w.heap.size + 1, 8, none⟩ (.bool b)) = Wz) := hWz
  have KC : Hid (Wc.cell? ⟨w.heap.size, 0, none⟩ = some (.int .i64 d) ∧ Wc.cell? ⟨w.heap.size + 1, 0, none⟩ = some (.int .i64 0) ∧ Wc.frozen? ⟨w.heap.size + 1, 0, none⟩ = false ∧ Wc.cell? ⟨w.heap.size, 1, none⟩ = some (.int .i64 1) ∧ Wc.cell? ⟨w.heap.size + 1, 1, none⟩ = some (.int .i64 0) ∧ Wc.frozen? ⟨w.heap.size + 1, 1, none⟩ = false ∧ Wc.cell? ⟨w.heap.size, 2, none⟩ = some (.string s) ∧ Wc.cell? ⟨w.heap.size + 1, 2, none⟩ = some (.string ⟨#[]⟩) ∧ Wc.frozen? ⟨w.heap.size + 1, 2, none⟩ = false ∧ Wc.cell? ⟨w.heap.size, 3, none⟩ = some (.string v) ∧ Wc.cell? ⟨w.heap.size + 1, 3, none⟩ = some (.string ⟨#[]⟩) ∧ Wc.frozen? ⟨w.heap.size + 1, 3, none⟩ = false ∧ Wc.cell? ⟨w.heap.size, 4, none⟩ = some (.string i) ∧ Wc.cell? ⟨w.heap.size + 1, 4, none⟩ = some (.string ⟨#[]⟩) ∧ Wc.frozen? ⟨w.heap.size + 1, 4, none⟩ = false ∧ Wc.cell? ⟨w.heap.size, 5, none⟩ = some (.slice a m n) ∧ Wc.cell? ⟨w.heap.size + 1, 5, none⟩ = some (.slice none 0 0) ∧ Wc.frozen? ⟨w.heap.size + 1, 5, none⟩ = false ∧ Wc.cell? ⟨w.heap.size, 6, none⟩ = some (.string f) ∧ Wc.cell? ⟨w.heap.size + 1, 6, none⟩ = some (.string ⟨#[]⟩) ∧ Wc.frozen? ⟨w.heap.size + 1, 6, none⟩ = false ∧ Wc.cell? ⟨w.heap.size, 7, none⟩ = some (.string r) ∧ Wc.cell? ⟨w.heap.size + 1, 7, none⟩ = some (.string ⟨#[]⟩) ∧ Wc.frozen? ⟨w.heap.size + 1, 7, none⟩ = false ∧ Wc.cell? ⟨w.heap.size, 8, none⟩ = some (.bool b) ∧ Wc.cell? ⟨w.heap.size + 1, 8, none⟩ = some (.bool false) ∧ Wc.frozen? ⟨w.heap.size + 1, 8, none⟩ = false) := ⟨(pc.cell 0 (by simp)).1, (qc.cell 0 (by simp)).1, (qc.cell 0 (by simp)).2, (pc.cell 1 (by simp)).1, (qc.cell 1 (by simp)).1, (qc.cell 1 (by simp)).2, (pc.cell 2 (by simp)).1, (qc.cell 2 (by simp)).1, (qc.cell 2 (by simp)).2, (pc.cell 3 (by simp)).1, (qc.cell 3 (by simp)).1, (qc.cell 3 (by simp)).2, (pc.cell 4 (by simp)).1, (qc.cell 4 (by simp)).1, (qc.cell 4 (by simp)).2, (pc.cell 5 (by simp)).1, (qc.cell 5 (by simp)).1, (qc.cell 5 (by simp)).2, (pc.cell 6 (by simp)).1, (qc.cell 6 (by simp)).1, (qc.cell 6 (by simp)).2, (pc.cell 7 (by simp)).1, (qc.cell 7 (by simp)).1, (qc.cell 7 (by simp)).2, (pc.cell 8 (by simp)).1, (qc.cell 8 (by simp)).1, (qc.cell 8 (by simp)).2⟩
  have KB : Hid (Wb.cell? ⟨w.heap.size, 0, none⟩ = some (.int .i64 d) ∧ Wb.frozen? ⟨w.heap.size, 0, none⟩ = false ∧ Wb.cell? ⟨w.heap.size, 1, none⟩ = some (.int .i64 1) ∧ Wb.frozen? ⟨w.heap.size, 1, none⟩ = false ∧ Wb.cell? ⟨w.heap.size, 2, none⟩ = some (.string s) ∧ Wb.frozen? ⟨w.heap.size, 2, none⟩ = false ∧ Wb.cell? ⟨w.heap.size, 3, none⟩ = some (.string v) ∧ Wb.frozen? ⟨w.heap.size, 3, none⟩ = false ∧ Wb.cell? ⟨w.heap.size, 4, none⟩ = some (.string i) ∧ Wb.frozen? ⟨w.heap.size, 4, none⟩ = false ∧ Wb.cell? ⟨w.heap.size, 5, none⟩ = some (.slice a m n) ∧ Wb.frozen? ⟨w.heap.size, 5, none⟩ = false ∧ Wb.cell? ⟨w.heap.size, 6, none⟩ = some (.string f) ∧ Wb.frozen? ⟨w.heap.size, 6, none⟩ = false ∧ Wb.cell? ⟨w.heap.size, 7, none⟩ = some (.string r) ∧ Wb.frozen? ⟨w.heap.size, 7, none⟩ = false ∧ Wb.cell? ⟨w.heap.size, 8, none⟩ = some (.bool b) ∧ Wb.frozen? ⟨w.heap.size, 8, none⟩ = false) := ⟨(p.cell 0 (by simp)).1, (p.cell 0 (by simp)).2, (p.cell 1 (by simp)).1, (p.cell 1 (by simp)).2, (p.cell 2 (by simp)).1, (p.cell 2 (by simp)).2, (p.cell 3 (by simp)).1, (p.cell 3 (by simp)).2, (p.cell 4 (by simp)).1, (p.cell 4 (by simp)).2, (p.cell 5 (by simp)).1, (p.cell 5 (by simp)).2, (p.cell 6 (by simp)).1, (p.cell 6 (by simp)).2, (p.cell 7 (by simp)).1, (p.cell 7 (by simp)).2, (p.cell 8 (by simp)).1, (p.cell 8 (by simp)).2⟩
  clear hWb hWc hWz hBc qc pc hB q p na hWa
  have hWb := hWb'.out
  go_enter Tryd.func38, Tryd.ntmps38
  go_upto_region 1 with fail
  clear hWb
  obtain ⟨b0, y0, b1, y1, b2, y2, b3, y3, b4, y4, b5, y5, b6, y6, b7, y7, b8, y8⟩ := KB.out
  go_upto_region 13 with fail
  rw [hWc'.out]
  clear b0 y0 b1 y1 b2 y2 b3 y3 b4 y4 b5 y5 b6 y6 b7 y7 b8 y8
  obtain ⟨c0, e0, z0, c1, e1, z1, c2, e2, z2, c3, e3, z3, c4, e4, z4, c5, e5, z5, c6, e6, z6, c7, e7, z7, c8, e8, z8⟩ := KC.out
  go_wp2_with fail
  rw [hWz'.out]
  exact bodyPost_ret (results_cell _ _ _ rfl _ _ _ _ _ rfl (ld_nod hres.out)) rfl ⟨rfl, hBz.out⟩

set_option maxRecDepth 100000 in
set_option maxHeartbeats 2000000 in
theorem wo2 (d : Int) (s v i : ByteArray) (a : Option Addr) (m n : Nat) (f r : ByteArray) (b : Bool) (w : World) :
    Calls Tryd.prog 38 #[.agg #[.int .i64 d, .int .i64 2, .string s, .string v, .string i, .slice a m n, .string f, .string r, .bool b]] w fun e w' => e = .returned (.agg #[.int .i64 d, .int .i64 2, .string s, .string v, .string i, .slice a m n, .string f, .string r, .bool b]) ∧ Below w.heap.size w w' := by
  obtain ⟨Wa, hWa⟩ : ∃ W, w.alloc (.cells #[.int .i64 d, .int .i64 2, .string s, .string v, .string i, .slice a m n, .string f, .string r, .bool b] 38) = W := ⟨_, rfl⟩
  obtain ⟨Wb, hWb⟩ : ∃ W, Wa.alloc (.cells #[.int .i64 0, .int .i64 0, .string ⟨#[]⟩, .string ⟨#[]⟩, .string ⟨#[]⟩, .slice none 0 0, .string ⟨#[]⟩, .string ⟨#[]⟩, .bool false] 38) = W := ⟨_, rfl⟩
  have na : Wa.heap.size = w.heap.size + 1 := by rw [← hWa]; simp
  have p : Box Wb w.heap.size 38 #[.int .i64 d, .int .i64 2, .string s, .string v, .string i, .slice a m n, .string f, .string r, .bool b] := by rw [← hWb]; exact (show Box Wa w.heap.size 38 #[.int .i64 d, .int .i64 2, .string s, .string v, .string i, .slice a m n, .string f, .string r, .bool b] by rw [← hWa]; exact Box.new _ _ _).past _
  have q : Box Wb (w.heap.size + 1) 38 #[.int .i64 0, .int .i64 0, .string ⟨#[]⟩, .string ⟨#[]⟩, .string ⟨#[]⟩, .slice none 0 0, .string ⟨#[]⟩, .string ⟨#[]⟩, .bool false] := by rw [← hWb, ← na]; exact Box.new _ _ _
  have hB : Below w.heap.size w Wb := by
    rw [← hWb, ← hWa]
    exact ((Below.refl _ _).alloc (Nat.le_refl _) _).alloc (by simp) _
  rw [← hWa] at hWb
  have hWb' : Hid ((w.alloc (.cells #[.int .i64 d, .int .i64 2, .string s, .string v, .string i, .slice a m n, .string f, .string r, .bool b] 38)).alloc (.cells #[.int .i64 0, .int .i64 0, .string ⟨#[]⟩, .string ⟨#[]⟩, .string ⟨#[]⟩, .slice none 0 0, .string ⟨#[]⟩, .string ⟨#[]⟩, .bool false] 38) = Wb) := hWb
  obtain ⟨Wc, hWc⟩ : ∃ W, Wb = W := ⟨_, rfl⟩
  have pc : Box Wc w.heap.size 38 #[.int .i64 d, .int .i64 2, .string s, .string v, .string i, .slice a m n, .string f, .string r, .bool b] := by
    rw [← hWc]
    exact p
  have qc : Box Wc (w.heap.size + 1) 38 #[.int .i64 0, .int .i64 0, .string ⟨#[]⟩, .string ⟨#[]⟩, .string ⟨#[]⟩, .slice none 0 0, .string ⟨#[]⟩, .string ⟨#[]⟩, .bool false] := by rw [← hWc]; exact q.of (by rfl)
  have hBc : Below w.heap.size w Wc := by rw [← hWc]; exact hB
  obtain ⟨Wz, hWz⟩ : ∃ W, (((((((((Wc.setCell ⟨w.heap.size + 1, 0, none⟩ (.int .i64 d)).setCell ⟨w.heap.size + 1, 1, none⟩ (.int .i64 2)).setCell ⟨w.heap.size + 1, 2, none⟩ (.string s)).setCell ⟨w.heap.size + 1, 3, none⟩ (.string v)).setCell ⟨w.heap.size + 1, 4, none⟩ (.string i)).setCell ⟨w.heap.size + 1, 5, none⟩ (.slice a m n)).setCell ⟨w.heap.size + 1, 6, none⟩ (.string f)).setCell ⟨w.heap.size + 1, 7, none⟩ (.string r)).setCell ⟨w.heap.size + 1, 8, none⟩ (.bool b)) = W := ⟨_, rfl⟩
  have hres : Hid (Box Wz (w.heap.size + 1) 38 #[.int .i64 d, .int .i64 2, .string s, .string v, .string i, .slice a m n, .string f, .string r, .bool b]) := by rw [← hWz]; exact set9_box qc
  have hBz : Hid (Below w.heap.size w Wz) := by rw [← hWz]; exact set9_below hBc (by omega)
  have hWc' : Hid (Wb = Wc) := hWc
  have hWz' : Hid ((((((((((Wc.setCell ⟨w.heap.size + 1, 0, none⟩ (.int .i64 d)).setCell ⟨w.heap.size + 1, 1, none⟩ (.int .i64 2)).setCell ⟨w.heap.size + 1, 2, none⟩ (.string s)).setCell ⟨w.heap.size + 1, 3, none⟩ (.string v)).setCell ⟨w.heap.size + 1, 4, none⟩ (.string i)).setCell ⟨w.heap.size + 1, 5, none⟩ (.slice a m n)).setCell ⟨w.heap.size + 1, 6, none⟩ (.string f)).setCell ⟨w.heap.size + 1, 7, none⟩ (.string r)).setCell ⟨w.heap.size + 1, 8, none⟩ (.bool b)) = Wz) := hWz
  have KC : Hid (Wc.cell? ⟨w.heap.size, 0, none⟩ = some (.int .i64 d) ∧ Wc.cell? ⟨w.heap.size + 1, 0, none⟩ = some (.int .i64 0) ∧ Wc.frozen? ⟨w.heap.size + 1, 0, none⟩ = false ∧ Wc.cell? ⟨w.heap.size, 1, none⟩ = some (.int .i64 2) ∧ Wc.cell? ⟨w.heap.size + 1, 1, none⟩ = some (.int .i64 0) ∧ Wc.frozen? ⟨w.heap.size + 1, 1, none⟩ = false ∧ Wc.cell? ⟨w.heap.size, 2, none⟩ = some (.string s) ∧ Wc.cell? ⟨w.heap.size + 1, 2, none⟩ = some (.string ⟨#[]⟩) ∧ Wc.frozen? ⟨w.heap.size + 1, 2, none⟩ = false ∧ Wc.cell? ⟨w.heap.size, 3, none⟩ = some (.string v) ∧ Wc.cell? ⟨w.heap.size + 1, 3, none⟩ = some (.string ⟨#[]⟩) ∧ Wc.frozen? ⟨w.heap.size + 1, 3, none⟩ = false ∧ Wc.cell? ⟨w.heap.size, 4, none⟩ = some (.string i) ∧ Wc.cell? ⟨w.heap.size + 1, 4, none⟩ = some (.string ⟨#[]⟩) ∧ Wc.frozen? ⟨w.heap.size + 1, 4, none⟩ = false ∧ Wc.cell? ⟨w.heap.size, 5, none⟩ = some (.slice a m n) ∧ Wc.cell? ⟨w.heap.size + 1, 5, none⟩ = some (.slice none 0 0) ∧ Wc.frozen? ⟨w.heap.size + 1, 5, none⟩ = false ∧ Wc.cell? ⟨w.heap.size, 6, none⟩ = some (.string f) ∧ Wc.cell? ⟨w.heap.size + 1, 6, none⟩ = some (.string ⟨#[]⟩) ∧ Wc.frozen? ⟨w.heap.size + 1, 6, none⟩ = false ∧ Wc.cell? ⟨w.heap.size, 7, none⟩ = some (.string r) ∧ Wc.cell? ⟨w.heap.size + 1, 7, none⟩ = some (.string ⟨#[]⟩) ∧ Wc.frozen? ⟨w.heap.size + 1, 7, none⟩ = false ∧ Wc.cell? ⟨w.heap.size, 8, none⟩ = some (.bool b) ∧ Wc.cell? ⟨w.heap.size + 1, 8, none⟩ = some (.bool false) ∧ Wc.frozen? ⟨w.heap.size + 1, 8, none⟩ = false) := ⟨(pc.cell 0 (by simp)).1, (qc.cell 0 (by simp)).1, (qc.cell 0 (by simp)).2, (pc.cell 1 (by simp)).1, (qc.cell 1 (by simp)).1, (qc.cell 1 (by simp)).2, (pc.cell 2 (by simp)).1, (qc.cell 2 (by simp)).1, (qc.cell 2 (by simp)).2, (pc.cell 3 (by simp)).1, (qc.cell 3 (by simp)).1, (qc.cell 3 (by simp)).2, (pc.cell 4 (by simp)).1, (qc.cell 4 (by simp)).1, (qc.cell 4 (by simp)).2, (pc.cell 5 (by simp)).1, (qc.cell 5 (by simp)).1, (qc.cell 5 (by simp)).2, (pc.cell 6 (by simp)).1, (qc.cell 6 (by simp)).1, (qc.cell 6 (by simp)).2, (pc.cell 7 (by simp)).1, (qc.cell 7 (by simp)).1, (qc.cell 7 (by simp)).2, (pc.cell 8 (by simp)).1, (qc.cell 8 (by simp)).1, (qc.cell 8 (by simp)).2⟩
  have KB : Hid (Wb.cell? ⟨w.heap.size, 0, none⟩ = some (.int .i64 d) ∧ Wb.frozen? ⟨w.heap.size, 0, none⟩ = false ∧ Wb.cell? ⟨w.heap.size, 1, none⟩ = some (.int .i64 2) ∧ Wb.frozen? ⟨w.heap.size, 1, none⟩ = false ∧ Wb.cell? ⟨w.heap.size, 2, none⟩ = some (.string s) ∧ Wb.frozen? ⟨w.heap.size, 2, none⟩ = false ∧ Wb.cell? ⟨w.heap.size, 3, none⟩ = some (.string v) ∧ Wb.frozen? ⟨w.heap.size, 3, none⟩ = false ∧ Wb.cell? ⟨w.heap.size, 4, none⟩ = some (.string i) ∧ Wb.frozen? ⟨w.heap.size, 4, none⟩ = false ∧ Wb.cell? ⟨w.heap.size, 5, none⟩ = some (.slice a m n) ∧ Wb.frozen? ⟨w.heap.size, 5, none⟩ = false ∧ Wb.cell? ⟨w.heap.size, 6, none⟩ = some (.string f) ∧ Wb.frozen? ⟨w.heap.size, 6, none⟩ = false ∧ Wb.cell? ⟨w.heap.size, 7, none⟩ = some (.string r) ∧ Wb.frozen? ⟨w.heap.size, 7, none⟩ = false ∧ Wb.cell? ⟨w.heap.size, 8, none⟩ = some (.bool b) ∧ Wb.frozen? ⟨w.heap.size, 8, none⟩ = false) := ⟨(p.cell 0 (by simp)).1, (p.cell 0 (by simp)).2, (p.cell 1 (by simp)).1, (p.cell 1 (by simp)).2, (p.cell 2 (by simp)).1, (p.cell 2 (by simp)).2, (p.cell 3 (by simp)).1, (p.cell 3 (by simp)).2, (p.cell 4 (by simp)).1, (p.cell 4 (by simp)).2, (p.cell 5 (by simp)).1, (p.cell 5 (by simp)).2, (p.cell 6 (by simp)).1, (p.cell 6 (by simp)).2, (p.cell 7 (by simp)).1, (p.cell 7 (by simp)).2, (p.cell 8 (by simp)).1, (p.cell 8 (by simp)).2⟩
  clear hWb hWc hWz hBc qc pc hB q p na hWa
  have hWb := hWb'.out
  go_enter Tryd.func38, Tryd.ntmps38
  go_upto_region 1 with fail
  clear hWb
  obtain ⟨b0, y0, b1, y1, b2, y2, b3, y3, b4, y4, b5, y5, b6, y6, b7, y7, b8, y8⟩ := KB.out
  go_upto_region 13 with fail
  rw [hWc'.out]
  clear b0 y0 b1 y1 b2 y2 b3 y3 b4 y4 b5 y5 b6 y6 b7 y7 b8 y8
  obtain ⟨c0, e0, z0, c1, e1, z1, c2, e2, z2, c3, e3, z3, c4, e4, z4, c5, e5, z5, c6, e6, z6, c7, e7, z7, c8, e8, z8⟩ := KC.out
  go_wp2_with fail
  rw [hWz'.out]
  exact bodyPost_ret (results_cell _ _ _ rfl _ _ _ _ _ rfl (ld_nod hres.out)) rfl ⟨rfl, hBz.out⟩

set_option maxRecDepth 100000 in
set_option maxHeartbeats 2000000 in
theorem wo3 (d : Int) (s v i : ByteArray) (a : Option Addr) (m n : Nat) (f r : ByteArray) (b : Bool) (w : World) :
    Calls Tryd.prog 38 #[.agg #[.int .i64 d, .int .i64 3, .string s, .string v, .string i, .slice a m n, .string f, .string r, .bool b]] w fun e w' => e = .returned (.agg #[.int .i64 d, .int .i64 3, .string ⟨#[]⟩, .string ⟨#[]⟩, .string i, .slice a m n, .string f, .string r, .bool b]) ∧ Below w.heap.size w w' := by
  obtain ⟨Wa, hWa⟩ : ∃ W, w.alloc (.cells #[.int .i64 d, .int .i64 3, .string s, .string v, .string i, .slice a m n, .string f, .string r, .bool b] 38) = W := ⟨_, rfl⟩
  obtain ⟨Wb, hWb⟩ : ∃ W, Wa.alloc (.cells #[.int .i64 0, .int .i64 0, .string ⟨#[]⟩, .string ⟨#[]⟩, .string ⟨#[]⟩, .slice none 0 0, .string ⟨#[]⟩, .string ⟨#[]⟩, .bool false] 38) = W := ⟨_, rfl⟩
  have na : Wa.heap.size = w.heap.size + 1 := by rw [← hWa]; simp
  have p : Box Wb w.heap.size 38 #[.int .i64 d, .int .i64 3, .string s, .string v, .string i, .slice a m n, .string f, .string r, .bool b] := by rw [← hWb]; exact (show Box Wa w.heap.size 38 #[.int .i64 d, .int .i64 3, .string s, .string v, .string i, .slice a m n, .string f, .string r, .bool b] by rw [← hWa]; exact Box.new _ _ _).past _
  have q : Box Wb (w.heap.size + 1) 38 #[.int .i64 0, .int .i64 0, .string ⟨#[]⟩, .string ⟨#[]⟩, .string ⟨#[]⟩, .slice none 0 0, .string ⟨#[]⟩, .string ⟨#[]⟩, .bool false] := by rw [← hWb, ← na]; exact Box.new _ _ _
  have hB : Below w.heap.size w Wb := by
    rw [← hWb, ← hWa]
    exact ((Below.refl _ _).alloc (Nat.le_refl _) _).alloc (by simp) _
  rw [← hWa] at hWb
  have hWb' : Hid ((w.alloc (.cells #[.int .i64 d, .int .i64 3, .string s, .string v, .string i, .slice a m n, .string f, .string r, .bool b] 38)).alloc (.cells #[.int .i64 0, .int .i64 0, .string ⟨#[]⟩, .string ⟨#[]⟩, .string ⟨#[]⟩, .slice none 0 0, .string ⟨#[]⟩, .string ⟨#[]⟩, .bool false] 38) = Wb) := hWb
  obtain ⟨Wc, hWc⟩ : ∃ W, ((Wb.setCell ⟨w.heap.size, 3, none⟩ (.string ⟨#[]⟩)).setCell ⟨w.heap.size, 2, none⟩ (.string ⟨#[]⟩)) = W := ⟨_, rfl⟩
  have pc : Box Wc w.heap.size 38 #[.int .i64 d, .int .i64 3, .string ⟨#[]⟩, .string ⟨#[]⟩, .string i, .slice a m n, .string f, .string r, .bool b] := by
    rw [← hWc]
    have p0 : Box (Wb.setCell ⟨w.heap.size, 3, none⟩ (.string ⟨#[]⟩)) w.heap.size 38 #[.int .i64 d, .int .i64 3, .string s, .string ⟨#[]⟩, .string i, .slice a m n, .string f, .string r, .bool b] := p.set 3 _
    have p1 : Box ((Wb.setCell ⟨w.heap.size, 3, none⟩ (.string ⟨#[]⟩)).setCell ⟨w.heap.size, 2, none⟩ (.string ⟨#[]⟩)) w.heap.size 38 #[.int .i64 d, .int .i64 3, .string ⟨#[]⟩, .string ⟨#[]⟩, .string i, .slice a m n, .string f, .string r, .bool b] := p0.set 2 _
    exact p1
  have qc : Box Wc (w.heap.size + 1) 38 #[.int .i64 0, .int .i64 0, .string ⟨#[]⟩, .string ⟨#[]⟩, .string ⟨#[]⟩, .slice none 0 0, .string ⟨#[]⟩, .string ⟨#[]⟩, .bool false] := by rw [← hWc]; exact q.of (by rw [Below.heap_setCell _ _ _ _ (by show w.heap.size + 1 ≠ w.heap.size; omega), Below.heap_setCell _ _ _ _ (by show w.heap.size + 1 ≠ w.heap.size; omega)])
  have hBc : Below w.heap.size w Wc := by rw [← hWc]; exact Below.setCell (Below.setCell (hB) (Nat.le_refl _) _) (Nat.le_refl _) _
  obtain ⟨Wz, hWz⟩ : ∃ W, (((((((((Wc.setCell ⟨w.heap.size + 1, 0, none⟩ (.int .i64 d)).setCell ⟨w.heap.size + 1, 1, none⟩ (.int .i64 3)).setCell ⟨w.heap.size + 1, 2, none⟩ (.string ⟨#[]⟩)).setCell ⟨w.heap.size + 1, 3, none⟩ (.string ⟨#[]⟩)).setCell ⟨w.heap.size + 1, 4, none⟩ (.string i)).setCell ⟨w.heap.size + 1, 5, none⟩ (.slice a m n)).setCell ⟨w.heap.size + 1, 6, none⟩ (.string f)).setCell ⟨w.heap.size + 1, 7, none⟩ (.string r)).setCell ⟨w.heap.size + 1, 8, none⟩ (.bool b)) = W := ⟨_, rfl⟩
  have hres : Hid (Box Wz (w.heap.size + 1) 38 #[.int .i64 d, .int .i64 3, .string ⟨#[]⟩, .string ⟨#[]⟩, .string i, .slice a m n, .string f, .string r, .bool b]) := by rw [← hWz]; exact set9_box qc
  have hBz : Hid (Below w.heap.size w Wz) := by rw [← hWz]; exact set9_below hBc (by omega)
  have hWc' : Hid (((Wb.setCell ⟨w.heap.size, 3, none⟩ (.string ⟨#[]⟩)).setCell ⟨w.heap.size, 2, none⟩ (.string ⟨#[]⟩)) = Wc) := hWc
  have hWz' : Hid ((((((((((Wc.setCell ⟨w.heap.size + 1, 0, none⟩ (.int .i64 d)).setCell ⟨w.heap.size + 1, 1, none⟩ (.int .i64 3)).setCell ⟨w.heap.size + 1, 2, none⟩ (.string ⟨#[]⟩)).setCell ⟨w.heap.size + 1, 3, none⟩ (.string ⟨#[]⟩)).setCell ⟨w.heap.size + 1, 4, none⟩ (.string i)).setCell ⟨w.heap.size + 1, 5, none⟩ (.slice a m n)).setCell ⟨w.heap.size + 1, 6, none⟩ (.string f)).setCell ⟨w.heap.size + 1, 7, none⟩ (.string r)).setCell ⟨w.heap.size + 1, 8, none⟩ (.bool b)) = Wz) := hWz
  have KC : Hid (Wc.cell? ⟨w.heap.size, 0, none⟩ = some (.int .i64 d) ∧ Wc.cell? ⟨w.heap.size + 1, 0, none⟩ = some (.int .i64 0) ∧ Wc.frozen? ⟨w.heap.size + 1, 0, none⟩ = false ∧ Wc.cell? ⟨w.heap.size, 1, none⟩ = some (.int .i64 3) ∧ Wc.cell? ⟨w.heap.size + 1, 1, none⟩ = some (.int .i64 0) ∧ Wc.frozen? ⟨w.heap.size + 1, 1, none⟩ = false ∧ Wc.cell? ⟨w.heap.size, 2, none⟩ = some (.string ⟨#[]⟩) ∧ Wc.cell? ⟨w.heap.size + 1, 2, none⟩ = some (.string ⟨#[]⟩) ∧ Wc.frozen? ⟨w.heap.size + 1, 2, none⟩ = false ∧ Wc.cell? ⟨w.heap.size, 3, none⟩ = some (.string ⟨#[]⟩) ∧ Wc.cell? ⟨w.heap.size + 1, 3, none⟩ = some (.string ⟨#[]⟩) ∧ Wc.frozen? ⟨w.heap.size + 1, 3, none⟩ = false ∧ Wc.cell? ⟨w.heap.size, 4, none⟩ = some (.string i) ∧ Wc.cell? ⟨w.heap.size + 1, 4, none⟩ = some (.string ⟨#[]⟩) ∧ Wc.frozen? ⟨w.heap.size + 1, 4, none⟩ = false ∧ Wc.cell? ⟨w.heap.size, 5, none⟩ = some (.slice a m n) ∧ Wc.cell? ⟨w.heap.size + 1, 5, none⟩ = some (.slice none 0 0) ∧ Wc.frozen? ⟨w.heap.size + 1, 5, none⟩ = false ∧ Wc.cell? ⟨w.heap.size, 6, none⟩ = some (.string f) ∧ Wc.cell? ⟨w.heap.size + 1, 6, none⟩ = some (.string ⟨#[]⟩) ∧ Wc.frozen? ⟨w.heap.size + 1, 6, none⟩ = false ∧ Wc.cell? ⟨w.heap.size, 7, none⟩ = some (.string r) ∧ Wc.cell? ⟨w.heap.size + 1, 7, none⟩ = some (.string ⟨#[]⟩) ∧ Wc.frozen? ⟨w.heap.size + 1, 7, none⟩ = false ∧ Wc.cell? ⟨w.heap.size, 8, none⟩ = some (.bool b) ∧ Wc.cell? ⟨w.heap.size + 1, 8, none⟩ = some (.bool false) ∧ Wc.frozen? ⟨w.heap.size + 1, 8, none⟩ = false) := ⟨(pc.cell 0 (by simp)).1, (qc.cell 0 (by simp)).1, (qc.cell 0 (by simp)).2, (pc.cell 1 (by simp)).1, (qc.cell 1 (by simp)).1, (qc.cell 1 (by simp)).2, (pc.cell 2 (by simp)).1, (qc.cell 2 (by simp)).1, (qc.cell 2 (by simp)).2, (pc.cell 3 (by simp)).1, (qc.cell 3 (by simp)).1, (qc.cell 3 (by simp)).2, (pc.cell 4 (by simp)).1, (qc.cell 4 (by simp)).1, (qc.cell 4 (by simp)).2, (pc.cell 5 (by simp)).1, (qc.cell 5 (by simp)).1, (qc.cell 5 (by simp)).2, (pc.cell 6 (by simp)).1, (qc.cell 6 (by simp)).1, (qc.cell 6 (by simp)).2, (pc.cell 7 (by simp)).1, (qc.cell 7 (by simp)).1, (qc.cell 7 (by simp)).2, (pc.cell 8 (by simp)).1, (qc.cell 8 (by simp)).1, (qc.cell 8 (by simp)).2⟩
  have KB : Hid (Wb.cell? ⟨w.heap.size, 0, none⟩ = some (.int .i64 d) ∧ Wb.frozen? ⟨w.heap.size, 0, none⟩ = false ∧ Wb.cell? ⟨w.heap.size, 1, none⟩ = some (.int .i64 3) ∧ Wb.frozen? ⟨w.heap.size, 1, none⟩ = false ∧ Wb.cell? ⟨w.heap.size, 2, none⟩ = some (.string s) ∧ Wb.frozen? ⟨w.heap.size, 2, none⟩ = false ∧ Wb.cell? ⟨w.heap.size, 3, none⟩ = some (.string v) ∧ Wb.frozen? ⟨w.heap.size, 3, none⟩ = false ∧ Wb.cell? ⟨w.heap.size, 4, none⟩ = some (.string i) ∧ Wb.frozen? ⟨w.heap.size, 4, none⟩ = false ∧ Wb.cell? ⟨w.heap.size, 5, none⟩ = some (.slice a m n) ∧ Wb.frozen? ⟨w.heap.size, 5, none⟩ = false ∧ Wb.cell? ⟨w.heap.size, 6, none⟩ = some (.string f) ∧ Wb.frozen? ⟨w.heap.size, 6, none⟩ = false ∧ Wb.cell? ⟨w.heap.size, 7, none⟩ = some (.string r) ∧ Wb.frozen? ⟨w.heap.size, 7, none⟩ = false ∧ Wb.cell? ⟨w.heap.size, 8, none⟩ = some (.bool b) ∧ Wb.frozen? ⟨w.heap.size, 8, none⟩ = false) := ⟨(p.cell 0 (by simp)).1, (p.cell 0 (by simp)).2, (p.cell 1 (by simp)).1, (p.cell 1 (by simp)).2, (p.cell 2 (by simp)).1, (p.cell 2 (by simp)).2, (p.cell 3 (by simp)).1, (p.cell 3 (by simp)).2, (p.cell 4 (by simp)).1, (p.cell 4 (by simp)).2, (p.cell 5 (by simp)).1, (p.cell 5 (by simp)).2, (p.cell 6 (by simp)).1, (p.cell 6 (by simp)).2, (p.cell 7 (by simp)).1, (p.cell 7 (by simp)).2, (p.cell 8 (by simp)).1, (p.cell 8 (by simp)).2⟩
  clear hWb hWc hWz hBc qc pc hB q p na hWa
  have hWb := hWb'.out
  go_enter Tryd.func38, Tryd.ntmps38
  go_upto_region 1 with fail
  clear hWb
  obtain ⟨b0, y0, b1, y1, b2, y2, b3, y3, b4, y4, b5, y5, b6, y6, b7, y7, b8, y8⟩ := KB.out
  go_upto_region 13 with fail
  rw [hWc'.out]
  clear b0 y0 b1 y1 b2 y2 b3 y3 b4 y4 b5 y5 b6 y6 b7 y7 b8 y8
  obtain ⟨c0, e0, z0, c1, e1, z1, c2, e2, z2, c3, e3, z3, c4, e4, z4, c5, e5, z5, c6, e6, z6, c7, e7, z7, c8, e8, z8⟩ := KC.out
  go_wp2_with fail
  rw [hWz'.out]
  exact bodyPost_ret (results_cell _ _ _ rfl _ _ _ _ _ rfl (ld_nod hres.out)) rfl ⟨rfl, hBz.out⟩

set_option maxRecDepth 100000 in
set_option maxHeartbeats 2000000 in
theorem wo4 (d : Int) (s v i : ByteArray) (a : Option Addr) (m n : Nat) (f r : ByteArray) (b : Bool) (w : World) :
    Calls Tryd.prog 38 #[.agg #[.int .i64 d, .int .i64 4, .string s, .string v, .string i, .slice a m n, .string f, .string r, .bool b]] w fun e w' => e = .returned (.agg #[.int .i64 d, .int .i64 4, .string ⟨#[]⟩, .string v, .string ⟨#[]⟩, .slice none 0 0, .string ⟨#[]⟩, .string r, .bool b]) ∧ Below w.heap.size w w' := by
  obtain ⟨Wa, hWa⟩ : ∃ W, w.alloc (.cells #[.int .i64 d, .int .i64 4, .string s, .string v, .string i, .slice a m n, .string f, .string r, .bool b] 38) = W := ⟨_, rfl⟩
  obtain ⟨Wb, hWb⟩ : ∃ W, Wa.alloc (.cells #[.int .i64 0, .int .i64 0, .string ⟨#[]⟩, .string ⟨#[]⟩, .string ⟨#[]⟩, .slice none 0 0, .string ⟨#[]⟩, .string ⟨#[]⟩, .bool false] 38) = W := ⟨_, rfl⟩
  have na : Wa.heap.size = w.heap.size + 1 := by rw [← hWa]; simp
  have p : Box Wb w.heap.size 38 #[.int .i64 d, .int .i64 4, .string s, .string v, .string i, .slice a m n, .string f, .string r, .bool b] := by rw [← hWb]; exact (show Box Wa w.heap.size 38 #[.int .i64 d, .int .i64 4, .string s, .string v, .string i, .slice a m n, .string f, .string r, .bool b] by rw [← hWa]; exact Box.new _ _ _).past _
  have q : Box Wb (w.heap.size + 1) 38 #[.int .i64 0, .int .i64 0, .string ⟨#[]⟩, .string ⟨#[]⟩, .string ⟨#[]⟩, .slice none 0 0, .string ⟨#[]⟩, .string ⟨#[]⟩, .bool false] := by rw [← hWb, ← na]; exact Box.new _ _ _
  have hB : Below w.heap.size w Wb := by
    rw [← hWb, ← hWa]
    exact ((Below.refl _ _).alloc (Nat.le_refl _) _).alloc (by simp) _
  rw [← hWa] at hWb
  have hWb' : Hid ((w.alloc (.cells #[.int .i64 d, .int .i64 4, .string s, .string v, .string i, .slice a m n, .string f, .string r, .bool b] 38)).alloc (.cells #[.int .i64 0, .int .i64 0, .string ⟨#[]⟩, .string ⟨#[]⟩, .string ⟨#[]⟩, .slice none 0 0, .string ⟨#[]⟩, .string ⟨#[]⟩, .bool false] 38) = Wb) := hWb
  obtain ⟨Wc, hWc⟩ : ∃ W, ((((Wb.setCell ⟨w.heap.size, 2, none⟩ (.string ⟨#[]⟩)).setCell ⟨w.heap.size, 4, none⟩ (.string ⟨#[]⟩)).setCell ⟨w.heap.size, 5, none⟩ (.slice none 0 0)).setCell ⟨w.heap.size, 6, none⟩ (.string ⟨#[]⟩)) = W := ⟨_, rfl⟩
  have pc : Box Wc w.heap.size 38 #[.int .i64 d, .int .i64 4, .string ⟨#[]⟩, .string v, .string ⟨#[]⟩, .slice none 0 0, .string ⟨#[]⟩, .string r, .bool b] := by
    rw [← hWc]
    have p0 : Box (Wb.setCell ⟨w.heap.size, 2, none⟩ (.string ⟨#[]⟩)) w.heap.size 38 #[.int .i64 d, .int .i64 4, .string ⟨#[]⟩, .string v, .string i, .slice a m n, .string f, .string r, .bool b] := p.set 2 _
    have p1 : Box ((Wb.setCell ⟨w.heap.size, 2, none⟩ (.string ⟨#[]⟩)).setCell ⟨w.heap.size, 4, none⟩ (.string ⟨#[]⟩)) w.heap.size 38 #[.int .i64 d, .int .i64 4, .string ⟨#[]⟩, .string v, .string ⟨#[]⟩, .slice a m n, .string f, .string r, .bool b] := p0.set 4 _
    have p2 : Box (((Wb.setCell ⟨w.heap.size, 2, none⟩ (.string ⟨#[]⟩)).setCell ⟨w.heap.size, 4, none⟩ (.string ⟨#[]⟩)).setCell ⟨w.heap.size, 5, none⟩ (.slice none 0 0)) w.heap.size 38 #[.int .i64 d, .int .i64 4, .string ⟨#[]⟩, .string v, .string ⟨#[]⟩, .slice none 0 0, .string f, .string r, .bool b] := p1.set 5 _
    have p3 : Box ((((Wb.setCell ⟨w.heap.size, 2, none⟩ (.string ⟨#[]⟩)).setCell ⟨w.heap.size, 4, none⟩ (.string ⟨#[]⟩)).setCell ⟨w.heap.size, 5, none⟩ (.slice none 0 0)).setCell ⟨w.heap.size, 6, none⟩ (.string ⟨#[]⟩)) w.heap.size 38 #[.int .i64 d, .int .i64 4, .string ⟨#[]⟩, .string v, .string ⟨#[]⟩, .slice none 0 0, .string ⟨#[]⟩, .string r, .bool b] := p2.set 6 _
    exact p3
  have qc : Box Wc (w.heap.size + 1) 38 #[.int .i64 0, .int .i64 0, .string ⟨#[]⟩, .string ⟨#[]⟩, .string ⟨#[]⟩, .slice none 0 0, .string ⟨#[]⟩, .string ⟨#[]⟩, .bool false] := by rw [← hWc]; exact q.of (by rw [Below.heap_setCell _ _ _ _ (by show w.heap.size + 1 ≠ w.heap.size; omega), Below.heap_setCell _ _ _ _ (by show w.heap.size + 1 ≠ w.heap.size; omega), Below.heap_setCell _ _ _ _ (by show w.heap.size + 1 ≠ w.heap.size; omega), Below.heap_setCell _ _ _ _ (by show w.heap.size + 1 ≠ w.heap.size; omega)])
  have hBc : Below w.heap.size w Wc := by rw [← hWc]; exact Below.setCell (Below.setCell (Below.setCell (Below.setCell (hB) (Nat.le_refl _) _) (Nat.le_refl _) _) (Nat.le_refl _) _) (Nat.le_refl _) _
  obtain ⟨Wz, hWz⟩ : ∃ W, (((((((((Wc.setCell ⟨w.heap.size + 1, 0, none⟩ (.int .i64 d)).setCell ⟨w.heap.size + 1, 1, none⟩ (.int .i64 4)).setCell ⟨w.heap.size + 1, 2, none⟩ (.string ⟨#[]⟩)).setCell ⟨w.heap.size + 1, 3, none⟩ (.string v)).setCell ⟨w.heap.size + 1, 4, none⟩ (.string ⟨#[]⟩)).setCell ⟨w.heap.size + 1, 5, none⟩ (.slice none 0 0)).setCell ⟨w.heap.size + 1, 6, none⟩ (.string ⟨#[]⟩)).setCell ⟨w.heap.size + 1, 7, none⟩ (.string r)).setCell ⟨w.heap.size + 1, 8, none⟩ (.bool b)) = W := ⟨_, rfl⟩
  have hres : Hid (Box Wz (w.heap.size + 1) 38 #[.int .i64 d, .int .i64 4, .string ⟨#[]⟩, .string v, .string ⟨#[]⟩, .slice none 0 0, .string ⟨#[]⟩, .string r, .bool b]) := by rw [← hWz]; exact set9_box qc
  have hBz : Hid (Below w.heap.size w Wz) := by rw [← hWz]; exact set9_below hBc (by omega)
  have hWc' : Hid (((((Wb.setCell ⟨w.heap.size, 2, none⟩ (.string ⟨#[]⟩)).setCell ⟨w.heap.size, 4, none⟩ (.string ⟨#[]⟩)).setCell ⟨w.heap.size, 5, none⟩ (.slice none 0 0)).setCell ⟨w.heap.size, 6, none⟩ (.string ⟨#[]⟩)) = Wc) := hWc
  have hWz' : Hid ((((((((((Wc.setCell ⟨w.heap.size + 1, 0, none⟩ (.int .i64 d)).setCell ⟨w.heap.size + 1, 1, none⟩ (.int .i64 4)).setCell ⟨w.heap.size + 1, 2, none⟩ (.string ⟨#[]⟩)).setCell ⟨w.heap.size + 1, 3, none⟩ (.string v)).setCell ⟨w.heap.size + 1, 4, none⟩ (.string ⟨#[]⟩)).setCell ⟨w.heap.size + 1, 5, none⟩ (.slice none 0 0)).setCell ⟨w.heap.size + 1, 6, none⟩ (.string ⟨#[]⟩)).setCell ⟨w.heap.size + 1, 7, none⟩ (.string r)).setCell ⟨w.heap.size + 1, 8, none⟩ (.bool b)) = Wz) := hWz
  have KC : Hid (Wc.cell? ⟨w.heap.size, 0, none⟩ = some (.int .i64 d) ∧ Wc.cell? ⟨w.heap.size + 1, 0, none⟩ = some (.int .i64 0) ∧ Wc.frozen? ⟨w.heap.size + 1, 0, none⟩ = false ∧ Wc.cell? ⟨w.heap.size, 1, none⟩ = some (.int .i64 4) ∧ Wc.cell? ⟨w.heap.size + 1, 1, none⟩ = some (.int .i64 0) ∧ Wc.frozen? ⟨w.heap.size + 1, 1, none⟩ = false ∧ Wc.cell? ⟨w.heap.size, 2, none⟩ = some (.string ⟨#[]⟩) ∧ Wc.cell? ⟨w.heap.size + 1, 2, none⟩ = some (.string ⟨#[]⟩) ∧ Wc.frozen? ⟨w.heap.size + 1, 2, none⟩ = false ∧ Wc.cell? ⟨w.heap.size, 3, none⟩ = some (.string v) ∧ Wc.cell? ⟨w.heap.size + 1, 3, none⟩ = some (.string ⟨#[]⟩) ∧ Wc.frozen? ⟨w.heap.size + 1, 3, none⟩ = false ∧ Wc.cell? ⟨w.heap.size, 4, none⟩ = some (.string ⟨#[]⟩) ∧ Wc.cell? ⟨w.heap.size + 1, 4, none⟩ = some (.string ⟨#[]⟩) ∧ Wc.frozen? ⟨w.heap.size + 1, 4, none⟩ = false ∧ Wc.cell? ⟨w.heap.size, 5, none⟩ = some (.slice none 0 0) ∧ Wc.cell? ⟨w.heap.size + 1, 5, none⟩ = some (.slice none 0 0) ∧ Wc.frozen? ⟨w.heap.size + 1, 5, none⟩ = false ∧ Wc.cell? ⟨w.heap.size, 6, none⟩ = some (.string ⟨#[]⟩) ∧ Wc.cell? ⟨w.heap.size + 1, 6, none⟩ = some (.string ⟨#[]⟩) ∧ Wc.frozen? ⟨w.heap.size + 1, 6, none⟩ = false ∧ Wc.cell? ⟨w.heap.size, 7, none⟩ = some (.string r) ∧ Wc.cell? ⟨w.heap.size + 1, 7, none⟩ = some (.string ⟨#[]⟩) ∧ Wc.frozen? ⟨w.heap.size + 1, 7, none⟩ = false ∧ Wc.cell? ⟨w.heap.size, 8, none⟩ = some (.bool b) ∧ Wc.cell? ⟨w.heap.size + 1, 8, none⟩ = some (.bool false) ∧ Wc.frozen? ⟨w.heap.size + 1, 8, none⟩ = false) := ⟨(pc.cell 0 (by simp)).1, (qc.cell 0 (by simp)).1, (qc.cell 0 (by simp)).2, (pc.cell 1 (by simp)).1, (qc.cell 1 (by simp)).1, (qc.cell 1 (by simp)).2, (pc.cell 2 (by simp)).1, (qc.cell 2 (by simp)).1, (qc.cell 2 (by simp)).2, (pc.cell 3 (by simp)).1, (qc.cell 3 (by simp)).1, (qc.cell 3 (by simp)).2, (pc.cell 4 (by simp)).1, (qc.cell 4 (by simp)).1, (qc.cell 4 (by simp)).2, (pc.cell 5 (by simp)).1, (qc.cell 5 (by simp)).1, (qc.cell 5 (by simp)).2, (pc.cell 6 (by simp)).1, (qc.cell 6 (by simp)).1, (qc.cell 6 (by simp)).2, (pc.cell 7 (by simp)).1, (qc.cell 7 (by simp)).1, (qc.cell 7 (by simp)).2, (pc.cell 8 (by simp)).1, (qc.cell 8 (by simp)).1, (qc.cell 8 (by simp)).2⟩
  have KB : Hid (Wb.cell? ⟨w.heap.size, 0, none⟩ = some (.int .i64 d) ∧ Wb.frozen? ⟨w.heap.size, 0, none⟩ = false ∧ Wb.cell? ⟨w.heap.size, 1, none⟩ = some (.int .i64 4) ∧ Wb.frozen? ⟨w.heap.size, 1, none⟩ = false ∧ Wb.cell? ⟨w.heap.size, 2, none⟩ = some (.string s) ∧ Wb.frozen? ⟨w.heap.size, 2, none⟩ = false ∧ Wb.cell? ⟨w.heap.size, 3, none⟩ = some (.string v) ∧ Wb.frozen? ⟨w.heap.size, 3, none⟩ = false ∧ Wb.cell? ⟨w.heap.size, 4, none⟩ = some (.string i) ∧ Wb.frozen? ⟨w.heap.size, 4, none⟩ = false ∧ Wb.cell? ⟨w.heap.size, 5, none⟩ = some (.slice a m n) ∧ Wb.frozen? ⟨w.heap.size, 5, none⟩ = false ∧ Wb.cell? ⟨w.heap.size, 6, none⟩ = some (.string f) ∧ Wb.frozen? ⟨w.heap.size, 6, none⟩ = false ∧ Wb.cell? ⟨w.heap.size, 7, none⟩ = some (.string r) ∧ Wb.frozen? ⟨w.heap.size, 7, none⟩ = false ∧ Wb.cell? ⟨w.heap.size, 8, none⟩ = some (.bool b) ∧ Wb.frozen? ⟨w.heap.size, 8, none⟩ = false) := ⟨(p.cell 0 (by simp)).1, (p.cell 0 (by simp)).2, (p.cell 1 (by simp)).1, (p.cell 1 (by simp)).2, (p.cell 2 (by simp)).1, (p.cell 2 (by simp)).2, (p.cell 3 (by simp)).1, (p.cell 3 (by simp)).2, (p.cell 4 (by simp)).1, (p.cell 4 (by simp)).2, (p.cell 5 (by simp)).1, (p.cell 5 (by simp)).2, (p.cell 6 (by simp)).1, (p.cell 6 (by simp)).2, (p.cell 7 (by simp)).1, (p.cell 7 (by simp)).2, (p.cell 8 (by simp)).1, (p.cell 8 (by simp)).2⟩
  clear hWb hWc hWz hBc qc pc hB q p na hWa
  have hWb := hWb'.out
  go_enter Tryd.func38, Tryd.ntmps38
  go_upto_region 1 with fail
  clear hWb
  obtain ⟨b0, y0, b1, y1, b2, y2, b3, y3, b4, y4, b5, y5, b6, y6, b7, y7, b8, y8⟩ := KB.out
  go_upto_region 13 with fail
  rw [hWc'.out]
  clear b0 y0 b1 y1 b2 y2 b3 y3 b4 y4 b5 y5 b6 y6 b7 y7 b8 y8
  obtain ⟨c0, e0, z0, c1, e1, z1, c2, e2, z2, c3, e3, z3, c4, e4, z4, c5, e5, z5, c6, e6, z6, c7, e7, z7, c8, e8, z8⟩ := KC.out
  go_wp2_with fail
  rw [hWz'.out]
  exact bodyPost_ret (results_cell _ _ _ rfl _ _ _ _ _ rfl (ld_nod hres.out)) rfl ⟨rfl, hBz.out⟩

set_option maxRecDepth 100000 in
set_option maxHeartbeats 2000000 in
theorem wo5 (d : Int) (s v i : ByteArray) (a : Option Addr) (m n : Nat) (f r : ByteArray) (b : Bool) (w : World) :
    Calls Tryd.prog 38 #[.agg #[.int .i64 d, .int .i64 5, .string s, .string v, .string i, .slice a m n, .string f, .string r, .bool b]] w fun e w' => e = .returned (.agg #[.int .i64 d, .int .i64 5, .string ⟨#[]⟩, .string ⟨#[]⟩, .string i, .slice a m n, .string f, .string r, .bool b]) ∧ Below w.heap.size w w' := by
  obtain ⟨Wa, hWa⟩ : ∃ W, w.alloc (.cells #[.int .i64 d, .int .i64 5, .string s, .string v, .string i, .slice a m n, .string f, .string r, .bool b] 38) = W := ⟨_, rfl⟩
  obtain ⟨Wb, hWb⟩ : ∃ W, Wa.alloc (.cells #[.int .i64 0, .int .i64 0, .string ⟨#[]⟩, .string ⟨#[]⟩, .string ⟨#[]⟩, .slice none 0 0, .string ⟨#[]⟩, .string ⟨#[]⟩, .bool false] 38) = W := ⟨_, rfl⟩
  have na : Wa.heap.size = w.heap.size + 1 := by rw [← hWa]; simp
  have p : Box Wb w.heap.size 38 #[.int .i64 d, .int .i64 5, .string s, .string v, .string i, .slice a m n, .string f, .string r, .bool b] := by rw [← hWb]; exact (show Box Wa w.heap.size 38 #[.int .i64 d, .int .i64 5, .string s, .string v, .string i, .slice a m n, .string f, .string r, .bool b] by rw [← hWa]; exact Box.new _ _ _).past _
  have q : Box Wb (w.heap.size + 1) 38 #[.int .i64 0, .int .i64 0, .string ⟨#[]⟩, .string ⟨#[]⟩, .string ⟨#[]⟩, .slice none 0 0, .string ⟨#[]⟩, .string ⟨#[]⟩, .bool false] := by rw [← hWb, ← na]; exact Box.new _ _ _
  have hB : Below w.heap.size w Wb := by
    rw [← hWb, ← hWa]
    exact ((Below.refl _ _).alloc (Nat.le_refl _) _).alloc (by simp) _
  rw [← hWa] at hWb
  have hWb' : Hid ((w.alloc (.cells #[.int .i64 d, .int .i64 5, .string s, .string v, .string i, .slice a m n, .string f, .string r, .bool b] 38)).alloc (.cells #[.int .i64 0, .int .i64 0, .string ⟨#[]⟩, .string ⟨#[]⟩, .string ⟨#[]⟩, .slice none 0 0, .string ⟨#[]⟩, .string ⟨#[]⟩, .bool false] 38) = Wb) := hWb
  obtain ⟨Wc, hWc⟩ : ∃ W, ((Wb.setCell ⟨w.heap.size, 3, none⟩ (.string ⟨#[]⟩)).setCell ⟨w.heap.size, 2, none⟩ (.string ⟨#[]⟩)) = W := ⟨_, rfl⟩
  have pc : Box Wc w.heap.size 38 #[.int .i64 d, .int .i64 5, .string ⟨#[]⟩, .string ⟨#[]⟩, .string i, .slice a m n, .string f, .string r, .bool b] := by
    rw [← hWc]
    have p0 : Box (Wb.setCell ⟨w.heap.size, 3, none⟩ (.string ⟨#[]⟩)) w.heap.size 38 #[.int .i64 d, .int .i64 5, .string s, .string ⟨#[]⟩, .string i, .slice a m n, .string f, .string r, .bool b] := p.set 3 _
    have p1 : Box ((Wb.setCell ⟨w.heap.size, 3, none⟩ (.string ⟨#[]⟩)).setCell ⟨w.heap.size, 2, none⟩ (.string ⟨#[]⟩)) w.heap.size 38 #[.int .i64 d, .int .i64 5, .string ⟨#[]⟩, .string ⟨#[]⟩, .string i, .slice a m n, .string f, .string r, .bool b] := p0.set 2 _
    exact p1
  have qc : Box Wc (w.heap.size + 1) 38 #[.int .i64 0, .int .i64 0, .string ⟨#[]⟩, .string ⟨#[]⟩, .string ⟨#[]⟩, .slice none 0 0, .string ⟨#[]⟩, .string ⟨#[]⟩, .bool false] := by rw [← hWc]; exact q.of (by rw [Below.heap_setCell _ _ _ _ (by show w.heap.size + 1 ≠ w.heap.size; omega), Below.heap_setCell _ _ _ _ (by show w.heap.size + 1 ≠ w.heap.size; omega)])
  have hBc : Below w.heap.size w Wc := by rw [← hWc]; exact Below.setCell (Below.setCell (hB) (Nat.le_refl _) _) (Nat.le_refl _) _
  obtain ⟨Wz, hWz⟩ : ∃ W, (((((((((Wc.setCell ⟨w.heap.size + 1, 0, none⟩ (.int .i64 d)).setCell ⟨w.heap.size + 1, 1, none⟩ (.int .i64 5)).setCell ⟨w.heap.size + 1, 2, none⟩ (.string ⟨#[]⟩)).setCell ⟨w.heap.size + 1, 3, none⟩ (.string ⟨#[]⟩)).setCell ⟨w.heap.size + 1, 4, none⟩ (.string i)).setCell ⟨w.heap.size + 1, 5, none⟩ (.slice a m n)).setCell ⟨w.heap.size + 1, 6, none⟩ (.string f)).setCell ⟨w.heap.size + 1, 7, none⟩ (.string r)).setCell ⟨w.heap.size + 1, 8, none⟩ (.bool b)) = W := ⟨_, rfl⟩
  have hres : Hid (Box Wz (w.heap.size + 1) 38 #[.int .i64 d, .int .i64 5, .string ⟨#[]⟩, .string ⟨#[]⟩, .string i, .slice a m n, .string f, .string r, .bool b]) := by rw [← hWz]; exact set9_box qc
  have hBz : Hid (Below w.heap.size w Wz) := by rw [← hWz]; exact set9_below hBc (by omega)
  have hWc' : Hid (((Wb.setCell ⟨w.heap.size, 3, none⟩ (.string ⟨#[]⟩)).setCell ⟨w.heap.size, 2, none⟩ (.string ⟨#[]⟩)) = Wc) := hWc
  have hWz' : Hid ((((((((((Wc.setCell ⟨w.heap.size + 1, 0, none⟩ (.int .i64 d)).setCell ⟨w.heap.size + 1, 1, none⟩ (.int .i64 5)).setCell ⟨w.heap.size + 1, 2, none⟩ (.string ⟨#[]⟩)).setCell ⟨w.heap.size + 1, 3, none⟩ (.string ⟨#[]⟩)).setCell ⟨w.heap.size + 1, 4, none⟩ (.string i)).setCell ⟨w.heap.size + 1, 5, none⟩ (.slice a m n)).setCell ⟨w.heap.size + 1, 6, none⟩ (.string f)).setCell ⟨w.heap.size + 1, 7, none⟩ (.string r)).setCell ⟨w.heap.size + 1, 8, none⟩ (.bool b)) = Wz) := hWz
  have KC : Hid (Wc.cell? ⟨w.heap.size, 0, none⟩ = some (.int .i64 d) ∧ Wc.cell? ⟨w.heap.size + 1, 0, none⟩ = some (.int .i64 0) ∧ Wc.frozen? ⟨w.heap.size + 1, 0, none⟩ = false ∧ Wc.cell? ⟨w.heap.size, 1, none⟩ = some (.int .i64 5) ∧ Wc.cell? ⟨w.heap.size + 1, 1, none⟩ = some (.int .i64 0) ∧ Wc.frozen? ⟨w.heap.size + 1, 1, none⟩ = false ∧ Wc.cell? ⟨w.heap.size, 2, none⟩ = some (.string ⟨#[]⟩) ∧ Wc.cell? ⟨w.heap.size + 1, 2, none⟩ = some (.string ⟨#[]⟩) ∧ Wc.frozen? ⟨w.heap.size + 1, 2, none⟩ = false ∧ Wc.cell? ⟨w.heap.size, 3, none⟩ = some (.string ⟨#[]⟩) ∧ Wc.cell? ⟨w.heap.size + 1, 3, none⟩ = some (.string ⟨#[]⟩) ∧ Wc.frozen? ⟨w.heap.size + 1, 3, none⟩ = false ∧ Wc.cell? ⟨w.heap.size, 4, none⟩ = some (.string i) ∧ Wc.cell? ⟨w.heap.size + 1, 4, none⟩ = some (.string ⟨#[]⟩) ∧ Wc.frozen? ⟨w.heap.size + 1, 4, none⟩ = false ∧ Wc.cell? ⟨w.heap.size, 5, none⟩ = some (.slice a m n) ∧ Wc.cell? ⟨w.heap.size + 1, 5, none⟩ = some (.slice none 0 0) ∧ Wc.frozen? ⟨w.heap.size + 1, 5, none⟩ = false ∧ Wc.cell? ⟨w.heap.size, 6, none⟩ = some (.string f) ∧ Wc.cell? ⟨w.heap.size + 1, 6, none⟩ = some (.string ⟨#[]⟩) ∧ Wc.frozen? ⟨w.heap.size + 1, 6, none⟩ = false ∧ Wc.cell? ⟨w.heap.size, 7, none⟩ = some (.string r) ∧ Wc.cell? ⟨w.heap.size + 1, 7, none⟩ = some (.string ⟨#[]⟩) ∧ Wc.frozen? ⟨w.heap.size + 1, 7, none⟩ = false ∧ Wc.cell? ⟨w.heap.size, 8, none⟩ = some (.bool b) ∧ Wc.cell? ⟨w.heap.size + 1, 8, none⟩ = some (.bool false) ∧ Wc.frozen? ⟨w.heap.size + 1, 8, none⟩ = false) := ⟨(pc.cell 0 (by simp)).1, (qc.cell 0 (by simp)).1, (qc.cell 0 (by simp)).2, (pc.cell 1 (by simp)).1, (qc.cell 1 (by simp)).1, (qc.cell 1 (by simp)).2, (pc.cell 2 (by simp)).1, (qc.cell 2 (by simp)).1, (qc.cell 2 (by simp)).2, (pc.cell 3 (by simp)).1, (qc.cell 3 (by simp)).1, (qc.cell 3 (by simp)).2, (pc.cell 4 (by simp)).1, (qc.cell 4 (by simp)).1, (qc.cell 4 (by simp)).2, (pc.cell 5 (by simp)).1, (qc.cell 5 (by simp)).1, (qc.cell 5 (by simp)).2, (pc.cell 6 (by simp)).1, (qc.cell 6 (by simp)).1, (qc.cell 6 (by simp)).2, (pc.cell 7 (by simp)).1, (qc.cell 7 (by simp)).1, (qc.cell 7 (by simp)).2, (pc.cell 8 (by simp)).1, (qc.cell 8 (by simp)).1, (qc.cell 8 (by simp)).2⟩
  have KB : Hid (Wb.cell? ⟨w.heap.size, 0, none⟩ = some (.int .i64 d) ∧ Wb.frozen? ⟨w.heap.size, 0, none⟩ = false ∧ Wb.cell? ⟨w.heap.size, 1, none⟩ = some (.int .i64 5) ∧ Wb.frozen? ⟨w.heap.size, 1, none⟩ = false ∧ Wb.cell? ⟨w.heap.size, 2, none⟩ = some (.string s) ∧ Wb.frozen? ⟨w.heap.size, 2, none⟩ = false ∧ Wb.cell? ⟨w.heap.size, 3, none⟩ = some (.string v) ∧ Wb.frozen? ⟨w.heap.size, 3, none⟩ = false ∧ Wb.cell? ⟨w.heap.size, 4, none⟩ = some (.string i) ∧ Wb.frozen? ⟨w.heap.size, 4, none⟩ = false ∧ Wb.cell? ⟨w.heap.size, 5, none⟩ = some (.slice a m n) ∧ Wb.frozen? ⟨w.heap.size, 5, none⟩ = false ∧ Wb.cell? ⟨w.heap.size, 6, none⟩ = some (.string f) ∧ Wb.frozen? ⟨w.heap.size, 6, none⟩ = false ∧ Wb.cell? ⟨w.heap.size, 7, none⟩ = some (.string r) ∧ Wb.frozen? ⟨w.heap.size, 7, none⟩ = false ∧ Wb.cell? ⟨w.heap.size, 8, none⟩ = some (.bool b) ∧ Wb.frozen? ⟨w.heap.size, 8, none⟩ = false) := ⟨(p.cell 0 (by simp)).1, (p.cell 0 (by simp)).2, (p.cell 1 (by simp)).1, (p.cell 1 (by simp)).2, (p.cell 2 (by simp)).1, (p.cell 2 (by simp)).2, (p.cell 3 (by simp)).1, (p.cell 3 (by simp)).2, (p.cell 4 (by simp)).1, (p.cell 4 (by simp)).2, (p.cell 5 (by simp)).1, (p.cell 5 (by simp)).2, (p.cell 6 (by simp)).1, (p.cell 6 (by simp)).2, (p.cell 7 (by simp)).1, (p.cell 7 (by simp)).2, (p.cell 8 (by simp)).1, (p.cell 8 (by simp)).2⟩
  clear hWb hWc hWz hBc qc pc hB q p na hWa
  have hWb := hWb'.out
  go_enter Tryd.func38, Tryd.ntmps38
  go_upto_region 1 with fail
  clear hWb
  obtain ⟨b0, y0, b1, y1, b2, y2, b3, y3, b4, y4, b5, y5, b6, y6, b7, y7, b8, y8⟩ := KB.out
  go_upto_region 13 with fail
  rw [hWc'.out]
  clear b0 y0 b1 y1 b2 y2 b3 y3 b4 y4 b5 y5 b6 y6 b7 y7 b8 y8
  obtain ⟨c0, e0, z0, c1, e1, z1, c2, e2, z2, c3, e3, z3, c4, e4, z4, c5, e5, z5, c6, e6, z6, c7, e7, z7, c8, e8, z8⟩ := KC.out
  go_wp2_with fail
  rw [hWz'.out]
  exact bodyPost_ret (results_cell _ _ _ rfl _ _ _ _ _ rfl (ld_nod hres.out)) rfl ⟨rfl, hBz.out⟩

set_option maxRecDepth 100000 in
set_option maxHeartbeats 2000000 in
theorem wo6 (d : Int) (s v i : ByteArray) (a : Option Addr) (m n : Nat) (f r : ByteArray) (b : Bool) (w : World) :
    Calls Tryd.prog 38 #[.agg #[.int .i64 d, .int .i64 6, .string s, .string v, .string i, .slice a m n, .string f, .string r, .bool b]] w fun e w' => e = .returned (.agg #[.int .i64 d, .int .i64 6, .string ⟨#[]⟩, .string ⟨#[]⟩, .string i, .slice a m n, .string f, .string r, .bool b]) ∧ Below w.heap.size w w' := by
  obtain ⟨Wa, hWa⟩ : ∃ W, w.alloc (.cells #[.int .i64 d, .int .i64 6, .string s, .string v, .string i, .slice a m n, .string f, .string r, .bool b] 38) = W := ⟨_, rfl⟩
  obtain ⟨Wb, hWb⟩ : ∃ W, Wa.alloc (.cells #[.int .i64 0, .int .i64 0, .string ⟨#[]⟩, .string ⟨#[]⟩, .string ⟨#[]⟩, .slice none 0 0, .string ⟨#[]⟩, .string ⟨#[]⟩, .bool false] 38) = W := ⟨_, rfl⟩
  have na : Wa.heap.size = w.heap.size + 1 := by rw [← hWa]; simp
  have p : Box Wb w.heap.size 38 #[.int .i64 d, .int .i64 6, .string s, .string v, .string i, .slice a m n, .string f, .string r, .bool b] := by rw [← hWb]; exact (show Box Wa w.heap.size 38 #[.int .i64 d, .int .i64 6, .string s, .string v, .string i, .slice a m n, .string f, .string r, .bool b] by rw [← hWa]; exact Box.new _ _ _).past _
  have q : Box Wb (w.heap.size + 1) 38 #[.int .i64 0, .int .i64 0, .string ⟨#[]⟩, .string ⟨#[]⟩, .string ⟨#[]⟩, .slice none 0 0, .string ⟨#[]⟩, .string ⟨#[]⟩, .bool false] := by rw [← hWb, ← na]; exact Box.new _ _ _
  have hB : Below w.heap.size w Wb := by
    rw [← hWb, ← hWa]
    exact ((Below.refl _ _).alloc (Nat.le_refl _) _).alloc (by simp) _
  rw [← hWa] at hWb
  have hWb' : Hid ((w.alloc (.cells #[.int .i64 d, .int .i64 6, .string s, .string v, .string i, .slice a m n, .string f, .string r, .bool b] 38)).alloc (.cells #[.int .i64 0, .int .i64 0, .string ⟨#[]⟩, .string ⟨#[]⟩, .string ⟨#[]⟩, .slice none 0 0, .string ⟨#[]⟩, .string ⟨#[]⟩, .bool false] 38) = Wb) := hWb
  obtain ⟨Wc, hWc⟩ : ∃ W, ((Wb.setCell ⟨w.heap.size, 3, none⟩ (.string ⟨#[]⟩)).setCell ⟨w.heap.size, 2, none⟩ (.string ⟨#[]⟩)) = W := ⟨_, rfl⟩
  have pc : Box Wc w.heap.size 38 #[.int .i64 d, .int .i64 6, .string ⟨#[]⟩, .string ⟨#[]⟩, .string i, .slice a m n, .string f, .string r, .bool b] := by
    rw [← hWc]
    have p0 : Box (Wb.setCell ⟨w.heap.size, 3, none⟩ (.string ⟨#[]⟩)) w.heap.size 38 #[.int .i64 d, .int .i64 6, .string s, .string ⟨#[]⟩, .string i, .slice a m n, .string f, .string r, .bool b] := p.set 3 _
    have p1 : Box ((Wb.setCell ⟨w.heap.size, 3, none⟩ (.string ⟨#[]⟩)).setCell ⟨w.heap.size, 2, none⟩ (.string ⟨#[]⟩)) w.heap.size 38 #[.int .i64 d, .int .i64 6, .string ⟨#[]⟩, .string ⟨#[]⟩, .string i, .slice a m n, .string f, .string r, .bool b] := p0.set 2 _
    exact p1
  have qc : Box Wc (w.heap.size + 1) 38 #[.int .i64 0, .int .i64 0, .string ⟨#[]⟩, .string ⟨#[]⟩, .string ⟨#[]⟩, .slice none 0 0, .string ⟨#[]⟩, .string ⟨#[]⟩, .bool false] := by rw [← hWc]; exact q.of (by rw [Below.heap_setCell _ _ _ _ (by show w.heap.size + 1 ≠ w.heap.size; omega), Below.heap_setCell _ _ _ _ (by show w.heap.size + 1 ≠ w.heap.size; omega)])
  have hBc : Below w.heap.size w Wc := by rw [← hWc]; exact Below.setCell (Below.setCell (hB) (Nat.le_refl _) _) (Nat.le_refl _) _
  obtain ⟨Wz, hWz⟩ : ∃ W, (((((((((Wc.setCell ⟨w.heap.size + 1, 0, none⟩ (.int .i64 d)).setCell ⟨w.heap.size + 1, 1, none⟩ (.int .i64 6)).setCell ⟨w.heap.size + 1, 2, none⟩ (.string ⟨#[]⟩)).setCell ⟨w.heap.size + 1, 3, none⟩ (.string ⟨#[]⟩)).setCell ⟨w.heap.size + 1, 4, none⟩ (.string i)).setCell ⟨w.heap.size + 1, 5, none⟩ (.slice a m n)).setCell ⟨w.heap.size + 1, 6, none⟩ (.string f)).setCell ⟨w.heap.size + 1, 7, none⟩ (.string r)).setCell ⟨w.heap.size + 1, 8, none⟩ (.bool b)) = W := ⟨_, rfl⟩
  have hres : Hid (Box Wz (w.heap.size + 1) 38 #[.int .i64 d, .int .i64 6, .string ⟨#[]⟩, .string ⟨#[]⟩, .string i, .slice a m n, .string f, .string r, .bool b]) := by rw [← hWz]; exact set9_box qc
  have hBz : Hid (Below w.heap.size w Wz) := by rw [← hWz]; exact set9_below hBc (by omega)
  have hWc' : Hid (((Wb.setCell ⟨w.heap.size, 3, none⟩ (.string ⟨#[]⟩)).setCell ⟨w.heap.size, 2, none⟩ (.string ⟨#[]⟩)) = Wc) := hWc
  have hWz' : Hid ((((((((((Wc.setCell ⟨w.heap.size + 1, 0, none⟩ (.int .i64 d)).setCell ⟨w.heap.size + 1, 1, none⟩ (.int .i64 6)).setCell ⟨w.heap.size + 1, 2, none⟩ (.string ⟨#[]⟩)).setCell ⟨w.heap.size + 1, 3, none⟩ (.string ⟨#[]⟩)).setCell ⟨w.heap.size + 1, 4, none⟩ (.string i)).setCell ⟨w.heap.size + 1, 5, none⟩ (.slice a m n)).setCell ⟨w.heap.size + 1, 6, none⟩ (.string f)).setCell ⟨w.heap.size + 1, 7, none⟩ (.string r)).setCell ⟨w.heap.size + 1, 8, none⟩ (.bool b)) = Wz) := hWz
  have KC : Hid (Wc.cell? ⟨w.heap.size, 0, none⟩ = some (.int .i64 d) ∧ Wc.cell? ⟨w.heap.size + 1, 0, none⟩ = some (.int .i64 0) ∧ Wc.frozen? ⟨w.heap.size + 1, 0, none⟩ = false ∧ Wc.cell? ⟨w.heap.size, 1, none⟩ = some (.int .i64 6) ∧ Wc.cell? ⟨w.heap.size + 1, 1, none⟩ = some (.int .i64 0) ∧ Wc.frozen? ⟨w.heap.size + 1, 1, none⟩ = false ∧ Wc.cell? ⟨w.heap.size, 2, none⟩ = some (.string ⟨#[]⟩) ∧ Wc.cell? ⟨w.heap.size + 1, 2, none⟩ = some (.string ⟨#[]⟩) ∧ Wc.frozen? ⟨w.heap.size + 1, 2, none⟩ = false ∧ Wc.cell? ⟨w.heap.size, 3, none⟩ = some (.string ⟨#[]⟩) ∧ Wc.cell? ⟨w.heap.size + 1, 3, none⟩ = some (.string ⟨#[]⟩) ∧ Wc.frozen? ⟨w.heap.size + 1, 3, none⟩ = false ∧ Wc.cell? ⟨w.heap.size, 4, none⟩ = some (.string i) ∧ Wc.cell? ⟨w.heap.size + 1, 4, none⟩ = some (.string ⟨#[]⟩) ∧ Wc.frozen? ⟨w.heap.size + 1, 4, none⟩ = false ∧ Wc.cell? ⟨w.heap.size, 5, none⟩ = some (.slice a m n) ∧ Wc.cell? ⟨w.heap.size + 1, 5, none⟩ = some (.slice none 0 0) ∧ Wc.frozen? ⟨w.heap.size + 1, 5, none⟩ = false ∧ Wc.cell? ⟨w.heap.size, 6, none⟩ = some (.string f) ∧ Wc.cell? ⟨w.heap.size + 1, 6, none⟩ = some (.string ⟨#[]⟩) ∧ Wc.frozen? ⟨w.heap.size + 1, 6, none⟩ = false ∧ Wc.cell? ⟨w.heap.size, 7, none⟩ = some (.string r) ∧ Wc.cell? ⟨w.heap.size + 1, 7, none⟩ = some (.string ⟨#[]⟩) ∧ Wc.frozen? ⟨w.heap.size + 1, 7, none⟩ = false ∧ Wc.cell? ⟨w.heap.size, 8, none⟩ = some (.bool b) ∧ Wc.cell? ⟨w.heap.size + 1, 8, none⟩ = some (.bool false) ∧ Wc.frozen? ⟨w.heap.size + 1, 8, none⟩ = false) := ⟨(pc.cell 0 (by simp)).1, (qc.cell 0 (by simp)).1, (qc.cell 0 (by simp)).2, (pc.cell 1 (by simp)).1, (qc.cell 1 (by simp)).1, (qc.cell 1 (by simp)).2, (pc.cell 2 (by simp)).1, (qc.cell 2 (by simp)).1, (qc.cell 2 (by simp)).2, (pc.cell 3 (by simp)).1, (qc.cell 3 (by simp)).1, (qc.cell 3 (by simp)).2, (pc.cell 4 (by simp)).1, (qc.cell 4 (by simp)).1, (qc.cell 4 (by simp)).2, (pc.cell 5 (by simp)).1, (qc.cell 5 (by simp)).1, (qc.cell 5 (by simp)).2, (pc.cell 6 (by simp)).1, (qc.cell 6 (by simp)).1, (qc.cell 6 (by simp)).2, (pc.cell 7 (by simp)).1, (qc.cell 7 (by simp)).1, (qc.cell 7 (by simp)).2, (pc.cell 8 (by simp)).1, (qc.cell 8 (by simp)).1, (qc.cell 8 (by simp)).2⟩
  have KB : Hid (Wb.cell? ⟨w.heap.size, 0, none⟩ = some (.int .i64 d) ∧ Wb.frozen? ⟨w.heap.size, 0, none⟩ = false ∧ Wb.cell? ⟨w.heap.size, 1, none⟩ = some (.int .i64 6) ∧ Wb.frozen? ⟨w.heap.size, 1, none⟩ = false ∧ Wb.cell? ⟨w.heap.size, 2, none⟩ = some (.string s) ∧ Wb.frozen? ⟨w.heap.size, 2, none⟩ = false ∧ Wb.cell? ⟨w.heap.size, 3, none⟩ = some (.string v) ∧ Wb.frozen? ⟨w.heap.size, 3, none⟩ = false ∧ Wb.cell? ⟨w.heap.size, 4, none⟩ = some (.string i) ∧ Wb.frozen? ⟨w.heap.size, 4, none⟩ = false ∧ Wb.cell? ⟨w.heap.size, 5, none⟩ = some (.slice a m n) ∧ Wb.frozen? ⟨w.heap.size, 5, none⟩ = false ∧ Wb.cell? ⟨w.heap.size, 6, none⟩ = some (.string f) ∧ Wb.frozen? ⟨w.heap.size, 6, none⟩ = false ∧ Wb.cell? ⟨w.heap.size, 7, none⟩ = some (.string r) ∧ Wb.frozen? ⟨w.heap.size, 7, none⟩ = false ∧ Wb.cell? ⟨w.heap.size, 8, none⟩ = some (.bool b) ∧ Wb.frozen? ⟨w.heap.size, 8, none⟩ = false) := ⟨(p.cell 0 (by simp)).1, (p.cell 0 (by simp)).2, (p.cell 1 (by simp)).1, (p.cell 1 (by simp)).2, (p.cell 2 (by simp)).1, (p.cell 2 (by simp)).2, (p.cell 3 (by simp)).1, (p.cell 3 (by simp)).2, (p.cell 4 (by simp)).1, (p.cell 4 (by simp)).2, (p.cell 5 (by simp)).1, (p.cell 5 (by simp)).2, (p.cell 6 (by simp)).1, (p.cell 6 (by simp)).2, (p.cell 7 (by simp)).1, (p.cell 7 (by simp)).2, (p.cell 8 (by simp)).1, (p.cell 8 (by simp)).2⟩
  clear hWb hWc hWz hBc qc pc hB q p na hWa
  have hWb := hWb'.out
  go_enter Tryd.func38, Tryd.ntmps38
  go_upto_region 1 with fail
  clear hWb
  obtain ⟨b0, y0, b1, y1, b2, y2, b3, y3, b4, y4, b5, y5, b6, y6, b7, y7, b8, y8⟩ := KB.out
  go_upto_region 13 with fail
  rw [hWc'.out]
  clear b0 y0 b1 y1 b2 y2 b3 y3 b4 y4 b5 y5 b6 y6 b7 y7 b8 y8
  obtain ⟨c0, e0, z0, c1, e1, z1, c2, e2, z2, c3, e3, z3, c4, e4, z4, c5, e5, z5, c6, e6, z6, c7, e7, z7, c8, e8, z8⟩ := KC.out
  go_wp2_with fail
  rw [hWz'.out]
  exact bodyPost_ret (results_cell _ _ _ rfl _ _ _ _ _ rfl (ld_nod hres.out)) rfl ⟨rfl, hBz.out⟩

set_option maxRecDepth 100000 in
set_option maxHeartbeats 2000000 in
theorem wo7 (d : Int) (s v i : ByteArray) (a : Option Addr) (m n : Nat) (f r : ByteArray) (b : Bool) (w : World) :
    Calls Tryd.prog 38 #[.agg #[.int .i64 d, .int .i64 7, .string s, .string v, .string i, .slice a m n, .string f, .string r, .bool b]] w fun e w' => e = .returned (.agg #[.int .i64 d, .int .i64 7, .string ⟨#[]⟩, .string v, .string i, .slice a m n, .string f, .string r, .bool b]) ∧ Below w.heap.size w w' := by
  obtain ⟨Wa, hWa⟩ : ∃ W, w.alloc (.cells #[.int .i64 d, .int .i64 7, .string s, .string v, .string i, .slice a m n, .string f, .string r, .bool b] 38) = W := ⟨_, rfl⟩
  obtain ⟨Wb, hWb⟩ : ∃ W, Wa.alloc (.cells #[.int .i64 0, .int .i64 0, .string ⟨#[]⟩, .string ⟨#[]⟩, .string ⟨#[]⟩, .slice none 0 0, .string ⟨#[]⟩, .string ⟨#[]⟩, .bool false] 38) = W := ⟨_, rfl⟩
  have na : Wa.heap.size = w.heap.size + 1 := by rw [← hWa]; simp
  have p : Box Wb w.heap.size 38 #[.int .i64 d, .int .i64 7, .string s, .string v, .string i, .slice a m n, .string f, .string r, .bool b] := by rw [← hWb]; exact (show Box Wa w.heap.size 38 #[.int .i64 d, .int .i64 7, .string s, .string v, .string i, .slice a m n, .string f, .string r, .bool b] by rw [← hWa]; exact Box.new _ _ _).past _
  have q : Box Wb (w.heap.size + 1) 38 #[.int .i64 0, .int .i64 0, .string ⟨#[]⟩, .string ⟨#[]⟩, .string ⟨#[]⟩, .slice none 0 0, .string ⟨#[]⟩, .string ⟨#[]⟩, .bool false] := by rw [← hWb, ← na]; exact Box.new _ _ _
  have hB : Below w.heap.size w Wb := by
    rw [← hWb, ← hWa]
    exact ((Below.refl _ _).alloc (Nat.le_refl _) _).alloc (by simp) _
  rw [← hWa] at hWb
  have hWb' : Hid ((w.alloc (.cells #[.int .i64 d, .int .i64 7, .string s, .string v, .string i, .slice a m n, .string f, .string r, .bool b] 38)).alloc (.cells #[.int .i64 0, .int .i64 0, .string ⟨#[]⟩, .string ⟨#[]⟩, .string ⟨#[]⟩, .slice none 0 0, .string ⟨#[]⟩, .string ⟨#[]⟩, .bool false] 38) = Wb) := hWb
  obtain ⟨Wc, hWc⟩ : ∃ W, (Wb.setCell ⟨w.heap.size, 2, none⟩ (.string ⟨#[]⟩)) = W := ⟨_, rfl⟩
  have pc : Box Wc w.heap.size 38 #[.int .i64 d, .int .i64 7, .string ⟨#[]⟩, .string v, .string i, .slice a m n, .string f, .string r, .bool b] := by
    rw [← hWc]
    have p0 : Box (Wb.setCell ⟨w.heap.size, 2, none⟩ (.string ⟨#[]⟩)) w.heap.size 38 #[.int .i64 d, .int .i64 7, .string ⟨#[]⟩, .string v, .string i, .slice a m n, .string f, .string r, .bool b] := p.set 2 _
    exact p0
  have qc : Box Wc (w.heap.size + 1) 38 #[.int .i64 0, .int .i64 0, .string ⟨#[]⟩, .string ⟨#[]⟩, .string ⟨#[]⟩, .slice none 0 0, .string ⟨#[]⟩, .string ⟨#[]⟩, .bool false] := by rw [← hWc]; exact q.of (by rw [Below.heap_setCell _ _ _ _ (by show w.heap.size + 1 ≠ w.heap.size; omega)])
  have hBc : Below w.heap.size w Wc := by rw [← hWc]; exact Below.setCell (hB) (Nat.le_refl _) _
  obtain ⟨Wz, hWz⟩ : ∃ W, (((((((((Wc.setCell ⟨w.heap.size + 1, 0, none⟩ (.int .i64 d)).setCell ⟨w.heap.size + 1, 1, none⟩ (.int .i64 7)).setCell ⟨w.heap.size + 1, 2, none⟩ (.string ⟨#[]⟩)).setCell ⟨w.heap.size + 1, 3, none⟩ (.string v)).setCell ⟨w.heap.size + 1, 4, none⟩ (.string i)).setCell ⟨w.heap.size + 1, 5, none⟩ (.slice a m n)).setCell ⟨w.heap.size + 1, 6, none⟩ (.string f)).setCell ⟨w.heap.size + 1, 7, none⟩ (.string r)).setCell ⟨w.heap.size + 1, 8, none⟩ (.bool b)) = W := ⟨_, rfl⟩
  have hres : Hid (Box Wz (w.heap.size + 1) 38 #[.int .i64 d, .int .i64 7, .string ⟨#[]⟩, .string v, .string i, .slice a m n, .string f, .string r, .bool b]) := by rw [← hWz]; exact set9_box qc
  have hBz : Hid (Below w.heap.size w Wz) := by rw [← hWz]; exact set9_below hBc (by omega)
  have hWc' : Hid ((Wb.setCell ⟨w.heap.size, 2, none⟩ (.string ⟨#[]⟩)) = Wc) := hWc
  have hWz' : Hid ((((((((((Wc.setCell ⟨w.heap.size + 1, 0, none⟩ (.int .i64 d)).setCell ⟨w.heap.size + 1, 1, none⟩ (.int .i64 7)).setCell ⟨w.heap.size + 1, 2, none⟩ (.string ⟨#[]⟩)).setCell ⟨w.heap.size + 1, 3, none⟩ (.string v)).setCell ⟨w.heap.size + 1, 4, none⟩ (.string i)).setCell ⟨w.heap.size + 1, 5, none⟩ (.slice a m n)).setCell ⟨w.heap.size + 1, 6, none⟩ (.string f)).setCell ⟨w.heap.size + 1, 7, none⟩ (.string r)).setCell ⟨w.heap.size + 1, 8, none⟩ (.bool b)) = Wz) := hWz
  have KC : Hid (Wc.cell? ⟨w.heap.size, 0, none⟩ = some (.int .i64 d) ∧ Wc.cell? ⟨w.heap.size + 1, 0, none⟩ = some (.int .i64 0) ∧ Wc.frozen? ⟨w.heap.size + 1, 0, none⟩ = false ∧ Wc.cell? ⟨w.heap.size, 1, none⟩ = some (.int .i64 7) ∧ Wc.cell? ⟨w.heap.size + 1, 1, none⟩ = some (.int .i64 0) ∧ Wc.frozen? ⟨w.heap.size + 1, 1, none⟩ = false ∧ Wc.cell? ⟨w.heap.size, 2, none⟩ = some (.string ⟨#[]⟩) ∧ Wc.cell? ⟨w.heap.size + 1, 2, none⟩ = some (.string ⟨#[]⟩) ∧ Wc.frozen? ⟨w.heap.size + 1, 2, none⟩ = false ∧ Wc.cell? ⟨w.heap.size, 3, none⟩ = some (.string v) ∧ Wc.cell? ⟨w.heap.size + 1, 3, none⟩ = some (.string ⟨#[]⟩) ∧ Wc.frozen? ⟨w.heap.size + 1, 3, none⟩ = false ∧ Wc.cell? ⟨w.heap.size, 4, none⟩ = some (.string i) ∧ Wc.cell? ⟨w.heap.size + 1, 4, none⟩ = some (.string ⟨#[]⟩) ∧ Wc.frozen? ⟨w.heap.size + 1, 4, none⟩ = false ∧ Wc.cell? ⟨w.heap.size, 5, none⟩ = some (.slice a m n) ∧ Wc.cell? ⟨w.heap.size + 1, 5, none⟩ = some (.slice none 0 0) ∧ Wc.frozen? ⟨w.heap.size + 1, 5, none⟩ = false ∧ Wc.cell? ⟨w.heap.size, 6, none⟩ = some (.string f) ∧ Wc.cell? ⟨w.heap.size + 1, 6, none⟩ = some (.string ⟨#[]⟩) ∧ Wc.frozen? ⟨w.heap.size + 1, 6, none⟩ = false ∧ Wc.cell? ⟨w.heap.size, 7, none⟩ = some (.string r) ∧ Wc.cell? ⟨w.heap.size + 1, 7, none⟩ = some (.string ⟨#[]⟩) ∧ Wc.frozen? ⟨w.heap.size + 1, 7, none⟩ = false ∧ Wc.cell? ⟨w.heap.size, 8, none⟩ = some (.bool b) ∧ Wc.cell? ⟨w.heap.size + 1, 8, none⟩ = some (.bool false) ∧ Wc.frozen? ⟨w.heap.size + 1, 8, none⟩ = false) := ⟨(pc.cell 0 (by simp)).1, (qc.cell 0 (by simp)).1, (qc.cell 0 (by simp)).2, (pc.cell 1 (by simp)).1, (qc.cell 1 (by simp)).1, (qc.cell 1 (by simp)).2, (pc.cell 2 (by simp)).1, (qc.cell 2 (by simp)).1, (qc.cell 2 (by simp)).2, (pc.cell 3 (by simp)).1, (qc.cell 3 (by simp)).1, (qc.cell 3 (by simp)).2, (pc.cell 4 (by simp)).1, (qc.cell 4 (by simp)).1, (qc.cell 4 (by simp)).2, (pc.cell 5 (by simp)).1, (qc.cell 5 (by simp)).1, (qc.cell 5 (by simp)).2, (pc.cell 6 (by simp)).1, (qc.cell 6 (by simp)).1, (qc.cell 6 (by simp)).2, (pc.cell 7 (by simp)).1, (qc.cell 7 (by simp)).1, (qc.cell 7 (by simp)).2, (pc.cell 8 (by simp)).1, (qc.cell 8 (by simp)).1, (qc.cell 8 (by simp)).2⟩
  have KB : Hid (Wb.cell? ⟨w.heap.size, 0, none⟩ = some (.int .i64 d) ∧ Wb.frozen? ⟨w.heap.size, 0, none⟩ = false ∧ Wb.cell? ⟨w.heap.size, 1, none⟩ = some (.int .i64 7) ∧ Wb.frozen? ⟨w.heap.size, 1, none⟩ = false ∧ Wb.cell? ⟨w.heap.size, 2, none⟩ = some (.string s) ∧ Wb.frozen? ⟨w.heap.size, 2, none⟩ = false ∧ Wb.cell? ⟨w.heap.size, 3, none⟩ = some (.string v) ∧ Wb.frozen? ⟨w.heap.size, 3, none⟩ = false ∧ Wb.cell? ⟨w.heap.size, 4, none⟩ = some (.string i) ∧ Wb.frozen? ⟨w.heap.size, 4, none⟩ = false ∧ Wb.cell? ⟨w.heap.size, 5, none⟩ = some (.slice a m n) ∧ Wb.frozen? ⟨w.heap.size, 5, none⟩ = false ∧ Wb.cell? ⟨w.heap.size, 6, none⟩ = some (.string f) ∧ Wb.frozen? ⟨w.heap.size, 6, none⟩ = false ∧ Wb.cell? ⟨w.heap.size, 7, none⟩ = some (.string r) ∧ Wb.frozen? ⟨w.heap.size, 7, none⟩ = false ∧ Wb.cell? ⟨w.heap.size, 8, none⟩ = some (.bool b) ∧ Wb.frozen? ⟨w.heap.size, 8, none⟩ = false) := ⟨(p.cell 0 (by simp)).1, (p.cell 0 (by simp)).2, (p.cell 1 (by simp)).1, (p.cell 1 (by simp)).2, (p.cell 2 (by simp)).1, (p.cell 2 (by simp)).2, (p.cell 3 (by simp)).1, (p.cell 3 (by simp)).2, (p.cell 4 (by simp)).1, (p.cell 4 (by simp)).2, (p.cell 5 (by simp)).1, (p.cell 5 (by simp)).2, (p.cell 6 (by simp)).1, (p.cell 6 (by simp)).2, (p.cell 7 (by simp)).1, (p.cell 7 (by simp)).2, (p.cell 8 (by simp)).1, (p.cell 8 (by simp)).2⟩
  clear hWb hWc hWz hBc qc pc hB q p na hWa
  have hWb := hWb'.out
  go_enter Tryd.func38, Tryd.ntmps38
  go_upto_region 1 with fail
  clear hWb
  obtain ⟨b0, y0, b1, y1, b2, y2, b3, y3, b4, y4, b5, y5, b6, y6, b7, y7, b8, y8⟩ := KB.out
  go_upto_region 13 with fail
  rw [hWc'.out]
  clear b0 y0 b1 y1 b2 y2 b3 y3 b4 y4 b5 y5 b6 y6 b7 y7 b8 y8
  obtain ⟨c0, e0, z0, c1, e1, z1, c2, e2, z2, c3, e3, z3, c4, e4, z4, c5, e5, z5, c6, e6, z6, c7, e7, z7, c8, e8, z8⟩ := KC.out
  go_wp2_with fail
  rw [hWz'.out]
  exact bodyPost_ret (results_cell _ _ _ rfl _ _ _ _ _ rfl (ld_nod hres.out)) rfl ⟨rfl, hBz.out⟩

set_option maxRecDepth 100000 in
set_option maxHeartbeats 2000000 in
theorem wo8 (d : Int) (s v i : ByteArray) (a : Option Addr) (m n : Nat) (f r : ByteArray) (b : Bool) (w : World) :
    Calls Tryd.prog 38 #[.agg #[.int .i64 d, .int .i64 8, .string s, .string v, .string i, .slice a m n, .string f, .string r, .bool b]] w fun e w' => e = .returned (.agg #[.int .i64 d, .int .i64 8, .string ⟨#[]⟩, .string ⟨#[]⟩, .string i, .slice a m n, .string f, .string r, .bool b]) ∧ Below w.heap.size w w' := by
  obtain ⟨Wa, hWa⟩ : ∃ W, w.alloc (.cells #[.int .i64 d, .int .i64 8, .string s, .string v, .string i, .slice a m n, .string f, .string r, .bool b] 38) = W := ⟨_, rfl⟩
  obtain ⟨Wb, hWb⟩ : ∃ W, Wa.alloc (.cells #[.int .i64 0, .int .i64 0, .string ⟨#[]⟩, .string ⟨#[]⟩, .string ⟨#[]⟩, .slice none 0 0, .string ⟨#[]⟩, .string ⟨#[]⟩, .bool false] 38) = W := ⟨_, rfl⟩
  have na : Wa.heap.size = w.heap.size + 1 := by rw [← hWa]; simp
  have p : Box Wb w.heap.size 38 #[.int .i64 d, .int .i64 8, .string s, .string v, .string i, .slice a m n, .string f, .string r, .bool b] := by rw [← hWb]; exact (show Box Wa w.heap.size 38 #[.int .i64 d, .int .i64 8, .string s, .string v, .string i, .slice a m n, .string f, .string r, .bool b] by rw [← hWa]; exact Box.new _ _ _).past _
  have q : Box Wb (w.heap.size + 1) 38 #[.int .i64 0, .int .i64 0, .string ⟨#[]⟩, .string ⟨#[]⟩, .string ⟨#[]⟩, .slice none 0 0, .string ⟨#[]⟩, .string ⟨#[]⟩, .bool false] := by rw [← hWb, ← na]; exact Box.new _ _ _
  have hB : Below w.heap.size w Wb := by
    rw [← hWb, ← hWa]
    exact ((Below.refl _ _).alloc (Nat.le_refl _) _).alloc (by simp) _
  rw [← hWa] at hWb
  have hWb' : Hid ((w.alloc (.cells #[.int .i64 d, .int .i64 8, .string s, .string v, .string i, .slice a m n, .string f, .string r, .bool b] 38)).alloc (.cells #[.int .i64 0, .int .i64 0, .string ⟨#[]⟩, .string ⟨#[]⟩, .string ⟨#[]⟩, .slice none 0 0, .string ⟨#[]⟩, .string ⟨#[]⟩, .bool false] 38) = Wb) := hWb
  obtain ⟨Wc, hWc⟩ : ∃ W, ((Wb.setCell ⟨w.heap.size, 3, none⟩ (.string ⟨#[]⟩)).setCell ⟨w.heap.size, 2, none⟩ (.string ⟨#[]⟩)) = W := ⟨_, rfl⟩
  have pc : Box Wc w.heap.size 38 #[.int .i64 d, .int .i64 8, .string ⟨#[]⟩, .string ⟨#[]⟩, .string i, .slice a m n, .string f, .string r, .bool b] := by
    rw [← hWc]
    have p0 : Box (Wb.setCell ⟨w.heap.size, 3, none⟩ (.string ⟨#[]⟩)) w.heap.size 38 #[.int .i64 d, .int .i64 8, .string s, .string ⟨#[]⟩, .string i, .slice a m n, .string f, .string r, .bool b] := p.set 3 _
    have p1 : Box ((Wb.setCell ⟨w.heap.size, 3, none⟩ (.string ⟨#[]⟩)).setCell ⟨w.heap.size, 2, none⟩ (.string ⟨#[]⟩)) w.heap.size 38 #[.int .i64 d, .int .i64 8, .string ⟨#[]⟩, .string ⟨#[]⟩, .string i, .slice a m n, .string f, .string r, .bool b] := p0.set 2 _
    exact p1
  have qc : Box Wc (w.heap.size + 1) 38 #[.int .i64 0, .int .i64 0, .string ⟨#[]⟩, .string ⟨#[]⟩, .string ⟨#[]⟩, .slice none 0 0, .string ⟨#[]⟩, .string ⟨#[]⟩, .bool false] := by rw [← hWc]; exact q.of (by rw [Below.heap_setCell _ _ _ _ (by show w.heap.size + 1 ≠ w.heap.size; omega), Below.heap_setCell _ _ _ _ (by show w.heap.size + 1 ≠ w.heap.size; omega)])
  have hBc : Below w.heap.size w Wc := by rw [← hWc]; exact Below.setCell (Below.setCell (hB) (Nat.le_refl _) _) (Nat.le_refl _) _
  obtain ⟨Wz, hWz⟩ : ∃ W, (((((((((Wc.setCell ⟨w.heap.size + 1, 0, none⟩ (.int .i64 d)).setCell ⟨w.heap.size + 1, 1, none⟩ (.int .i64 8)).setCell ⟨w.heap.size + 1, 2, none⟩ (.string ⟨#[]⟩)).setCell ⟨w.heap.size + 1, 3, none⟩ (.string ⟨#[]⟩)).setCell ⟨w.heap.size + 1, 4, none⟩ (.string i)).setCell ⟨w.heap.size + 1, 5, none⟩ (.slice a m n)).setCell ⟨w.heap.size + 1, 6, none⟩ (.string f)).setCell ⟨w.heap.size + 1, 7, none⟩ (.string r)).setCell ⟨w.heap.size + 1, 8, none⟩ (.bool b)) = W := ⟨_, rfl⟩
  have hres : Hid (Box Wz (w.heap.size + 1) 38 #[.int .i64 d, .int .i64 8, .string ⟨#[]⟩, .string ⟨#[]⟩, .string i, .slice a m n, .string f, .string r, .bool b]) := by rw [← hWz]; exact set9_box qc
  have hBz : Hid (Below w.heap.size w Wz) := by rw [← hWz]; exact set9_below hBc (by omega)
  have hWc' : Hid (((Wb.setCell ⟨w.heap.size, 3, none⟩ (.string ⟨#[]⟩)).setCell ⟨w.heap.size, 2, none⟩ (.string ⟨#[]⟩)) = Wc) := hWc
  have hWz' : Hid ((((((((((Wc.setCell ⟨w.heap.size + 1, 0, none⟩ (.int .i64 d)).setCell ⟨w.heap.size + 1, 1, none⟩ (.int .i64 8)).setCell ⟨w.heap.size + 1, 2, none⟩ (.string ⟨#[]⟩)).setCell ⟨w.heap.size + 1, 3, none⟩ (.string ⟨#[]⟩)).setCell ⟨w.heap.size + 1, 4, none⟩ (.string i)).setCell ⟨w.heap.size + 1, 5, none⟩ (.slice a m n)).setCell ⟨w.heap.size + 1, 6, none⟩ (.string f)).setCell ⟨w.heap.size + 1, 7, none⟩ (.string r)).setCell ⟨w.heap.size + 1, 8, none⟩ (.bool b)) = Wz) := hWz
  have KC : Hid (Wc.cell? ⟨w.heap.size, 0, none⟩ = some (.int .i64 d) ∧ Wc.cell? ⟨w.heap.size + 1, 0, none⟩ = some (.int .i64 0) ∧ Wc.frozen? ⟨w.heap.size + 1, 0, none⟩ = false ∧ Wc.cell? ⟨w.heap.size, 1, none⟩ = some (.int .i64 8) ∧ Wc.cell? ⟨w.heap.size + 1, 1, none⟩ = some (.int .i64 0) ∧ Wc.frozen? ⟨w.heap.size + 1, 1, none⟩ = false ∧ Wc.cell? ⟨w.heap.size, 2, none⟩ = some (.string ⟨#[]⟩) ∧ Wc.cell? ⟨w.heap.size + 1, 2, none⟩ = some (.string ⟨#[]⟩) ∧ Wc.frozen? ⟨w.heap.size + 1, 2, none⟩ = false ∧ Wc.cell? ⟨w.heap.size, 3, none⟩ = some (.string ⟨#[]⟩) ∧ Wc.cell? ⟨w.heap.size + 1, 3, none⟩ = some (.string ⟨#[]⟩) ∧ Wc.frozen? ⟨w.heap.size + 1, 3, none⟩ = false ∧ Wc.cell? ⟨w.heap.size, 4, none⟩ = some (.string i) ∧ Wc.cell? ⟨w.heap.size + 1, 4, none⟩ = some (.string ⟨#[]⟩) ∧ Wc.frozen? ⟨w.heap.size + 1, 4, none⟩ = false ∧ Wc.cell? ⟨w.heap.size, 5, none⟩ = some (.slice a m n) ∧ Wc.cell? ⟨w.heap.size + 1, 5, none⟩ = some (.slice none 0 0) ∧ Wc.frozen? ⟨w.heap.size + 1, 5, none⟩ = false ∧ Wc.cell? ⟨w.heap.size, 6, none⟩ = some (.string f) ∧ Wc.cell? ⟨w.heap.size + 1, 6, none⟩ = some (.string ⟨#[]⟩) ∧ Wc.frozen? ⟨w.heap.size + 1, 6, none⟩ = false ∧ Wc.cell? ⟨w.heap.size, 7, none⟩ = some (.string r) ∧ Wc.cell? ⟨w.heap.size + 1, 7, none⟩ = some (.string ⟨#[]⟩) ∧ Wc.frozen? ⟨w.heap.size + 1, 7, none⟩ = false ∧ Wc.cell? ⟨w.heap.size, 8, none⟩ = some (.bool b) ∧ Wc.cell? ⟨w.heap.size + 1, 8, none⟩ = some (.bool false) ∧ Wc.frozen? ⟨w.heap.size + 1, 8, none⟩ = false) := ⟨(pc.cell 0 (by simp)).1, (qc.cell 0 (by simp)).1, (qc.cell 0 (by simp)).2, (pc.cell 1 (by simp)).1, (qc.cell 1 (by simp)).1, (qc.cell 1 (by simp)).2, (pc.cell 2 (by simp)).1, (qc.cell 2 (by simp)).1, (qc.cell 2 (by simp)).2, (pc.cell 3 (by simp)).1, (qc.cell 3 (by simp)).1, (qc.cell 3 (by simp)).2, (pc.cell 4 (by simp)).1, (qc.cell 4 (by simp)).1, (qc.cell 4 (by simp)).2, (pc.cell 5 (by simp)).1, (qc.cell 5 (by simp)).1, (qc.cell 5 (by simp)).2, (pc.cell 6 (by simp)).1, (qc.cell 6 (by simp)).1, (qc.cell 6 (by simp)).2, (pc.cell 7 (by simp)).1, (qc.cell 7 (by simp)).1, (qc.cell 7 (by simp)).2, (pc.cell 8 (by simp)).1, (qc.cell 8 (by simp)).1, (qc.cell 8 (by simp)).2⟩
  have KB : Hid (Wb.cell? ⟨w.heap.size, 0, none⟩ = some (.int .i64 d) ∧ Wb.frozen? ⟨w.heap.size, 0, none⟩ = false ∧ Wb.cell? ⟨w.heap.size, 1, none⟩ = some (.int .i64 8) ∧ Wb.frozen? ⟨w.heap.size, 1, none⟩ = false ∧ Wb.cell? ⟨w.heap.size, 2, none⟩ = some (.string s) ∧ Wb.frozen? ⟨w.heap.size, 2, none⟩ = false ∧ Wb.cell? ⟨w.heap.size, 3, none⟩ = some (.string v) ∧ Wb.frozen? ⟨w.heap.size, 3, none⟩ = false ∧ Wb.cell? ⟨w.heap.size, 4, none⟩ = some (.string i) ∧ Wb.frozen? ⟨w.heap.size, 4, none⟩ = false ∧ Wb.cell? ⟨w.heap.size, 5, none⟩ = some (.slice a m n) ∧ Wb.frozen? ⟨w.heap.size, 5, none⟩ = false ∧ Wb.cell? ⟨w.heap.size, 6, none⟩ = some (.string f) ∧ Wb.frozen? ⟨w.heap.size, 6, none⟩ = false ∧ Wb.cell? ⟨w.heap.size, 7, none⟩ = some (.string r) ∧ Wb.frozen? ⟨w.heap.size, 7, none⟩ = false ∧ Wb.cell? ⟨w.heap.size, 8, none⟩ = some (.bool b) ∧ Wb.frozen? ⟨w.heap.size, 8, none⟩ = false) := ⟨(p.cell 0 (by simp)).1, (p.cell 0 (by simp)).2, (p.cell 1 (by simp)).1, (p.cell 1 (by simp)).2, (p.cell 2 (by simp)).1, (p.cell 2 (by simp)).2, (p.cell 3 (by simp)).1, (p.cell 3 (by simp)).2, (p.cell 4 (by simp)).1, (p.cell 4 (by simp)).2, (p.cell 5 (by simp)).1, (p.cell 5 (by simp)).2, (p.cell 6 (by simp)).1, (p.cell 6 (by simp)).2, (p.cell 7 (by simp)).1, (p.cell 7 (by simp)).2, (p.cell 8 (by simp)).1, (p.cell 8 (by simp)).2⟩
  clear hWb hWc hWz hBc qc pc hB q p na hWa
  have hWb := hWb'.out
  go_enter Tryd.func38, Tryd.ntmps38
  go_upto_region 1 with fail
  clear hWb
  obtain ⟨b0, y0, b1, y1, b2, y2, b3, y3, b4, y4, b5, y5, b6, y6, b7, y7, b8, y8⟩ := KB.out
  go_upto_region 13 with fail
  rw [hWc'.out]
  clear b0 y0 b1 y1 b2 y2 b3 y3 b4 y4 b5 y5 b6 y6 b7 y7 b8 y8
  obtain ⟨c0, e0, z0, c1, e1, z1, c2, e2, z2, c3, e3, z3, c4, e4, z4, c5, e5, z5, c6, e6, z6, c7, e7, z7, c8, e8, z8⟩ := KC.out
  go_wp2_with fail
  rw [hWz'.out]
  exact bodyPost_ret (results_cell _ _ _ rfl _ _ _ _ _ rfl (ld_nod hres.out)) rfl ⟨rfl, hBz.out⟩

set_option maxRecDepth 100000 in
set_option maxHeartbeats 2000000 in
theorem wo9 (d : Int) (s v i : ByteArray) (a : Option Addr) (m n : Nat) (f r : ByteArray) (b : Bool) (w : World) :
    Calls Tryd.prog 38 #[.agg #[.int .i64 d, .int .i64 9, .string s, .string v, .string i, .slice a m n, .string f, .string r, .bool b]] w fun e w' => e = .returned (.agg #[.int .i64 d, .int .i64 9, .string ⟨#[]⟩, .string ⟨#[]⟩, .string i, .slice a m n, .string f, .string ⟨#[]⟩, .bool false]) ∧ Below w.heap.size w w' := by
  obtain ⟨Wa, hWa⟩ : ∃ W, w.alloc (.cells #[.int .i64 d, .int .i64 9, .string s, .string v, .string i, .slice a m n, .string f, .string r, .bool b] 38) = W := ⟨_, rfl⟩
  obtain ⟨Wb, hWb⟩ : ∃ W, Wa.alloc (.cells #[.int .i64 0, .int .i64 0, .string ⟨#[]⟩, .string ⟨#[]⟩, .string ⟨#[]⟩, .slice none 0 0, .string ⟨#[]⟩, .string ⟨#[]⟩, .bool false] 38) = W := ⟨_, rfl⟩
  have na : Wa.heap.size = w.heap.size + 1 := by rw [← hWa]; simp
  have p : Box Wb w.heap.size 38 #[.int .i64 d, .int .i64 9, .string s, .string v, .string i, .slice a m n, .string f, .string r, .bool b] := by rw [← hWb]; exact (show Box Wa w.heap.size 38 #[.int .i64 d, .int .i64 9, .string s, .string v, .string i, .slice a m n, .string f, .string r, .bool b] by rw [← hWa]; exact Box.new _ _ _).past _
  have q : Box Wb (w.heap.size + 1) 38 #[.int .i64 0, .int .i64 0, .string ⟨#[]⟩, .string ⟨#[]⟩, .string ⟨#[]⟩, .slice none 0 0, .string ⟨#[]⟩, .string ⟨#[]⟩, .bool false] := by rw [← hWb, ← na]; exact Box.new _ _ _
  have hB : Below w.heap.size w Wb := by
    rw [← hWb, ← hWa]
    exact ((Below.refl _ _).alloc (Nat.le_refl _) _).alloc (by simp) _
  rw [← hWa] at hWb
  have hWb' : Hid ((w.alloc (.cells #[.int .i64 d, .int .i64 9, .string s, .string v, .string i, .slice a m n, .string f, .string r, .bool b] 38)).alloc (.cells #[.int .i64 0, .int .i64 0, .string ⟨#[]⟩, .string ⟨#[]⟩, .string ⟨#[]⟩, .slice none 0 0, .string ⟨#[]⟩, .string ⟨#[]⟩, .bool false] 38) = Wb) := hWb
  obtain ⟨Wc, hWc⟩ : ∃ W, ((((Wb.setCell ⟨w.heap.size, 7, none⟩ (.string ⟨#[]⟩)).setCell ⟨w.heap.size, 8, none⟩ (.bool false)).setCell ⟨w.heap.size, 3, none⟩ (.string ⟨#[]⟩)).setCell ⟨w.heap.size, 2, none⟩ (.string ⟨#[]⟩)) = W := ⟨_, rfl⟩
  have pc : Box Wc w.heap.size 38 #[.int .i64 d, .int .i64 9, .string ⟨#[]⟩, .string ⟨#[]⟩, .string i, .slice a m n, .string f, .string ⟨#[]⟩, .bool false] := by
    rw [← hWc]
    have p0 : Box (Wb.setCell ⟨w.heap.size, 7, none⟩ (.string ⟨#[]⟩)) w.heap.size 38 #[.int .i64 d, .int .i64 9, .string s, .string v, .string i, .slice a m n, .string f, .string ⟨#[]⟩, .bool b] := p.set 7 _
    have p1 : Box ((Wb.setCell ⟨w.heap.size, 7, none⟩ (.string ⟨#[]⟩)).setCell ⟨w.heap.size, 8, none⟩ (.bool false)) w.heap.size 38 #[.int .i64 d, .int .i64 9, .string s, .string v, .string i, .slice a m n, .string f, .string ⟨#[]⟩, .bool false] := p0.set 8 _
    have p2 : Box (((Wb.setCell ⟨w.heap.size, 7, none⟩ (.string ⟨#[]⟩)).setCell ⟨w.heap.size, 8, none⟩ (.bool false)).setCell ⟨w.heap.size, 3, none⟩ (.string ⟨#[]⟩)) w.heap.size 38 #[.int .i64 d, .int .i64 9, .string s, .string ⟨#[]⟩, .string i, .slice a m n, .string f, .string ⟨#[]⟩, .bool false] := p1.set 3 _
    have p3 : Box ((((Wb.setCell ⟨w.heap.size, 7, none⟩ (.string ⟨#[]⟩)).setCell ⟨w.heap.size, 8, none⟩ (.bool false)).setCell ⟨w.heap.size, 3, none⟩ (.string ⟨#[]⟩)).setCell ⟨w.heap.size, 2, none⟩ (.string ⟨#[]⟩)) w.heap.size 38 #[.int .i64 d, .int .i64 9, .string ⟨#[]⟩, .string ⟨#[]⟩, .string i, .slice a m n, .string f, .string ⟨#[]⟩, .bool false] := p2.set 2 _
    exact p3
  have qc : Box Wc (w.heap.size + 1) 38 #[.int .i64 0, .int .i64 0, .string ⟨#[]⟩, .string ⟨#[]⟩, .string ⟨#[]⟩, .slice none 0 0, .string ⟨#[]⟩, .string ⟨#[]⟩, .bool false] := by rw [← hWc]; exact q.of (by rw [Below.heap_setCell _ _ _ _ (by show w.heap.size + 1 ≠ w.heap.size; omega), Below.heap_setCell _ _ _ _ (by show w.heap.size + 1 ≠ w.heap.size; omega), Below.heap_setCell _ _ _ _ (by show w.heap.size + 1 ≠ w.heap.size; omega), Below.heap_setCell _ _ _ _ (by show w.heap.size + 1 ≠ w.heap.size; omega)])
  have hBc : Below w.heap.size w Wc := by rw [← hWc]; exact Below.setCell (Below.setCell (Below.setCell (Below.setCell (hB) (Nat.le_refl _) _) (Nat.le_refl _) _) (Nat.le_refl _) _) (Nat.le_refl _) _
  obtain ⟨Wz, hWz⟩ : ∃ W, (((((((((Wc.setCell ⟨w.heap.size + 1, 0, none⟩ (.int .i64 d)).setCell ⟨w.heap.size + 1, 1, none⟩ (.int .i64 9)).setCell ⟨w.heap.size + 1, 2, none⟩ (.string ⟨#[]⟩)).setCell ⟨w.heap.size + 1, 3, none⟩ (.string ⟨#[]⟩)).setCell ⟨w.heap.size + 1, 4, none⟩ (.string i)).setCell ⟨w.heap.size + 1, 5, none⟩ (.slice a m n)).setCell ⟨w.heap.size + 1, 6, none⟩ (.string f)).setCell ⟨w.heap.size + 1, 7, none⟩ (.string ⟨#[]⟩)).setCell ⟨w.heap.size + 1, 8, none⟩ (.bool false)) = W := ⟨_, rfl⟩
  have hres : Hid (Box Wz (w.heap.size + 1) 38 #[.int .i64 d, .int .i64 9, .string ⟨#[]⟩, .string ⟨#[]⟩, .string i, .slice a m n, .string f, .string ⟨#[]⟩, .bool false]) := by rw [← hWz]; exact set9_box qc
  have hBz : Hid (Below w.heap.size w Wz) := by rw [← hWz]; exact set9_below hBc (by omega)
  have hWc' : Hid (((((Wb.setCell ⟨w.heap.size, 7, none⟩ (.string ⟨#[]⟩)).setCell ⟨w.heap.size, 8, none⟩ (.bool false)).setCell ⟨w.heap.size, 3, none⟩ (.string ⟨#[]⟩)).setCell ⟨w.heap.size, 2, none⟩ (.string ⟨#[]⟩)) = Wc) := hWc
  have hWz' : Hid ((((((((((Wc.setCell ⟨w.heap.size + 1, 0, none⟩ (.int .i64 d)).setCell ⟨w.heap.size + 1, 1, none⟩ (.int .i64 9)).setCell ⟨w.heap.size + 1, 2, none⟩ (.string ⟨#[]⟩)).setCell ⟨w.heap.size + 1, 3, none⟩ (.string ⟨#[]⟩)).setCell ⟨w.heap.size + 1, 4, none⟩ (.string i)).setCell ⟨w.heap.size + 1, 5, none⟩ (.slice a m n)).setCell ⟨w.heap.size + 1, 6, none⟩ (.string f)).setCell ⟨w.heap.size + 1, 7, none⟩ (.string ⟨#[]⟩)).setCell ⟨w.heap.size + 1, 8, none⟩ (.bool false)) = Wz) := hWz
  have KC : Hid (Wc.cell? ⟨w.heap.size, 0, none⟩ = some (.int .i64 d) ∧ Wc.cell? ⟨w.heap.size + 1, 0, none⟩ = some (.int .i64 0) ∧ Wc.frozen? ⟨w.heap.size + 1, 0, none⟩ = false ∧ Wc.cell? ⟨w.heap.size, 1, none⟩ = some (.int .i64 9) ∧ Wc.cell? ⟨w.heap.size + 1, 1, none⟩ = some (.int .i64 0) ∧ Wc.frozen? ⟨w.heap.size + 1, 1, none⟩ = false ∧ Wc.cell? ⟨w.heap.size, 2, none⟩ = some (.string ⟨#[]⟩) ∧ Wc.cell? ⟨w.heap.size + 1, 2, none⟩ = some (.string ⟨#[]⟩) ∧ Wc.frozen? ⟨w.heap.size + 1, 2, none⟩ = false ∧ Wc.cell? ⟨w.heap.size, 3, none⟩ = some (.string ⟨#[]⟩) ∧ Wc.cell? ⟨w.heap.size + 1, 3, none⟩ = some (.string ⟨#[]⟩) ∧ Wc.frozen? ⟨w.heap.size + 1, 3, none⟩ = false ∧ Wc.cell? ⟨w.heap.size, 4, none⟩ = some (.string i) ∧ Wc.cell? ⟨w.heap.size + 1, 4, none⟩ = some (.string ⟨#[]⟩) ∧ Wc.frozen? ⟨w.heap.size + 1, 4, none⟩ = false ∧ Wc.cell? ⟨w.heap.size, 5, none⟩ = some (.slice a m n) ∧ Wc.cell? ⟨w.heap.size + 1, 5, none⟩ = some (.slice none 0 0) ∧ Wc.frozen? ⟨w.heap.size + 1, 5, none⟩ = false ∧ Wc.cell? ⟨w.heap.size, 6, none⟩ = some (.string f) ∧ Wc.cell? ⟨w.heap.size + 1, 6, none⟩ = some (.string ⟨#[]⟩) ∧ Wc.frozen? ⟨w.heap.size + 1, 6, none⟩ = false ∧ Wc.cell? ⟨w.heap.size, 7, none⟩ = some (.string ⟨#[]⟩) ∧ Wc.cell? ⟨w.heap.size + 1, 7, none⟩ = some (.string ⟨#[]⟩) ∧ Wc.frozen? ⟨w.heap.size + 1, 7, none⟩ = false ∧ Wc.cell? ⟨w.heap.size, 8, none⟩ = some (.bool false) ∧ Wc.cell? ⟨w.heap.size + 1, 8, none⟩ = some (.bool false) ∧ Wc.frozen? ⟨w.heap.size + 1, 8, none⟩ = false) := ⟨(pc.cell 0 (by simp)).1, (qc.cell 0 (by simp)).1, (qc.cell 0 (by simp)).2, (pc.cell 1 (by simp)).1, (qc.cell 1 (by simp)).1, (qc.cell 1 (by simp)).2, (pc.cell 2 (by simp)).1, (qc.cell 2 (by simp)).1, (qc.cell 2 (by simp)).2, (pc.cell 3 (by simp)).1, (qc.cell 3 (by simp)).1, (qc.cell 3 (by simp)).2, (pc.cell 4 (by simp)).1, (qc.cell 4 (by simp)).1, (qc.cell 4 (by simp)).2, (pc.cell 5 (by simp)).1, (qc.cell 5 (by simp)).1, (qc.cell 5 (by simp)).2, (pc.cell 6 (by simp)).1, (qc.cell 6 (by simp)).1, (qc.cell 6 (by simp)).2, (pc.cell 7 (by simp)).1, (qc.cell 7 (by simp)).1, (qc.cell 7 (by simp)).2, (pc.cell 8 (by simp)).1, (qc.cell 8 (by simp)).1, (qc.cell 8 (by simp)).2⟩
  have KB : Hid (Wb.cell? ⟨w.heap.size, 0, none⟩ = some (.int .i64 d) ∧ Wb.frozen? ⟨w.heap.size, 0, none⟩ = false ∧ Wb.cell? ⟨w.heap.size, 1, none⟩ = some (.int .i64 9) ∧ Wb.frozen? ⟨w.heap.size, 1, none⟩ = false ∧ Wb.cell? ⟨w.heap.size, 2, none⟩ = some (.string s) ∧ Wb.frozen? ⟨w.heap.size, 2, none⟩ = false ∧ Wb.cell? ⟨w.heap.size, 3, none⟩ = some (.string v) ∧ Wb.frozen? ⟨w.heap.size, 3, none⟩ = false ∧ Wb.cell? ⟨w.heap.size, 4, none⟩ = some (.string i) ∧ Wb.frozen? ⟨w.heap.size, 4, none⟩ = false ∧ Wb.cell? ⟨w.heap.size, 5, none⟩ = some (.slice a m n) ∧ Wb.frozen? ⟨w.heap.size, 5, none⟩ = false ∧ Wb.cell? ⟨w.heap.size, 6, none⟩ = some (.string f) ∧ Wb.frozen? ⟨w.heap.size, 6, none⟩ = false ∧ Wb.cell? ⟨w.heap.size, 7, none⟩ = some (.string r) ∧ Wb.frozen? ⟨w.heap.size, 7, none⟩ = false ∧ Wb.cell? ⟨w.heap.size, 8, none⟩ = some (.bool b) ∧ Wb.frozen? ⟨w.heap.size, 8, none⟩ = false) := ⟨(p.cell 0 (by simp)).1, (p.cell 0 (by simp)).2, (p.cell 1 (by simp)).1, (p.cell 1 (by simp)).2, (p.cell 2 (by simp)).1, (p.cell 2 (by simp)).2, (p.cell 3 (by simp)).1, (p.cell 3 (by simp)).2, (p.cell 4 (by simp)).1, (p.cell 4 (by simp)).2, (p.cell 5 (by simp)).1, (p.cell 5 (by simp)).2, (p.cell 6 (by simp)).1, (p.cell 6 (by simp)).2, (p.cell 7 (by simp)).1, (p.cell 7 (by simp)).2, (p.cell 8 (by simp)).1, (p.cell 8 (by simp)).2⟩
  clear hWb hWc hWz hBc qc pc hB q p na hWa
  have hWb := hWb'.out
  go_enter Tryd.func38, Tryd.ntmps38
  go_upto_region 1 with fail
  clear hWb
  obtain ⟨b0, y0, b1, y1, b2, y2, b3, y3, b4, y4, b5, y5, b6, y6, b7, y7, b8, y8⟩ := KB.out
  go_upto_region 13 with fail
  rw [hWc'.out]
  clear b0 y0 b1 y1 b2 y2 b3 y3 b4 y4 b5 y5 b6 y6 b7 y7 b8 y8
  obtain ⟨c0, e0, z0, c1, e1, z1, c2, e2, z2, c3, e3, z3, c4, e4, z4, c5, e5, z5, c6, e6, z6, c7, e7, z7, c8, e8, z8⟩ := KC.out
  go_wp2_with fail
  rw [hWz'.out]
  exact bodyPost_ret (results_cell _ _ _ rfl _ _ _ _ _ rfl (ld_nod hres.out)) rfl ⟨rfl, hBz.out⟩

/-- Is no inner piece empty? -/
def noE (l : List (List UInt8)) : Bool := decide (∀ t ∈ l, ¬ t = [])
theorem noE_at {l : List (List UInt8)} {i : Nat} (h : i < l.length) (e : l[i] = []) : noE l = false := decide_eq_false (fun q => q _ (List.getElem_mem h) e)
theorem noE_all {l : List (List UInt8)} (h : ∀ j (hj : j < l.length), ¬ l[j] = []) : noE l = true := decide_eq_true (fun t ht => by
  obtain ⟨j, hj, rfl⟩ := List.mem_iff_getElem.1 ht
  exact h j hj)
theorem toL_nil {x : List UInt8} : (S x).toList = [] ↔ x = [] := by rw [toList_S]

set_option maxRecDepth 100000 in
set_option maxHeartbeats 1000000 in
theorem index_any (l : List (List UInt8)) (a : Option Addr) (c : Nat) (w : World) (hl : l.length ≤ 1048576) (h1 : Row w a l) :
    Calls Tryd.prog 40 #[.slice a l.length c, .string ⟨#[]⟩] w fun e w' => (∃ r : Int, e = .returned (.int .i64 r) ∧ decide (r ≥ 0) = !noE l) ∧ w' = w := by
  have h1' : Hid (Row w a l) := h1
  clear h1
  go_enter Tryd.func40, Tryd.ntmps40
  go_wp2_with fail
  go_loopw [8] (fun iv wr => ∃ i : Nat, i ≤ l.length ∧ iv = .int .i64 (i : Int) ∧ Hid (∀ j (hj : j < l.length), j < i → ¬ l[j] = []) ∧ wr = w) (fun iv _ => l.length - (intOf iv).toNat)
  case atStart => exact ⟨0, Nat.zero_le _, rfl, fun j hj h => by omega, rfl⟩
  case round =>
    obtain ⟨i, hi, rfl, hI, rfl⟩ := hrel
    by_cases hlt : i < l.length
    · obtain ⟨b1, o1, rfl, g1⟩ := h1'.out i hlt
      have j0 : (0 : Int) ≤ (i : Int) := Int.natCast_nonneg _
      have j1 : (i : Int) < (l.length : Int) := Int.ofNat_lt.2 hlt
      by_cases hx : l[i] = []
      · have hno : Hid (noE l = false) := noE_at hlt hx
        rw [hx] at g1
        have eS : S [] = ⟨#[]⟩ := rfl
        rw [eS] at g1
        clear hx hlt eS
        go_wp2_with fail
        go_ret
        exact ⟨⟨_, rfl, by rw [hno.out]; simp⟩, rfl⟩
      · have hI' : Hid (∀ j (hj : j < l.length), j < i + 1 → ¬ l[j] = []) := fun j hj h => by
          by_cases he : j = i
          · subst he; exact hx
          · exact hI.out j hj (by omega)
        have hne : ¬ (S l[i]).toList = [] := fun h => hx (toL_nil.1 h)
        have hne2 : (S l[i]).toList.isEmpty = false := by
          cases h : (S l[i]).toList with
          | nil => exact absurd h hne
          | cons _ _ => rfl
        have hne3 : ¬ [] = (S l[i]).toList := fun h => hne h.symm
        have hne4 : (([] : List UInt8) == (S l[i]).toList) = false := by
          cases h : (S l[i]).toList with
          | nil => exact absurd h hne
          | cons _ _ => rfl
        generalize S l[i] = X at *
        have hlt' : Hid (i < l.length) := hlt
        clear hx hlt
        go_wp2_with fail
        go_roundw
        case rel => exact ⟨i + 1, hlt'.out, by simp, hI', trivial⟩
        case measure => have := hlt'.out; simp [intOf]; omega
    · have hle : i = l.length := by omega
      subst hle
      have hno : Hid (noE l = true) := noE_all (fun j hj => hI.out j hj hj)
      have k1 : ¬ (l.length : Int) < (l.length : Int) := by omega
      go_wp2_with fail
      go_ret
      exact ⟨⟨_, rfl, by rw [hno.out]; rfl⟩, rfl⟩
set_option maxRecDepth 100000 in
set_option maxHeartbeats 1000000 in
theorem containsE_any (l : List (List UInt8)) (a : Option Addr) (c : Nat) (w : World) (hl : l.length ≤ 1048576) (h1 : Row w a l) :
    Calls Tryd.prog 35 #[.slice a l.length c, .string ⟨#[]⟩] w fun e w' => e = .returned (.bool (!noE l)) ∧ w' = w := by
  have hF : Hid (Calls Tryd.prog 40 #[.slice a l.length c, .string ⟨#[]⟩] w fun e w' => (∃ r : Int, e = .returned (.int .i64 r) ∧ decide (r ≥ 0) = !noE l) ∧ w' = w) := index_any l a c w hl h1
  clear h1
  go_enter Tryd.func35, Tryd.ntmps35
  go_wp2_with (go_at_call 40; refine hF.out.mono ?_; rintro e w2 ⟨⟨r, rfl, hr⟩, rfl⟩)
  go_ret
  refine ⟨?_, rfl⟩
  rw [← hr]
  rfl
end Go.Proofs.YtofghgggllfafaaDoor
