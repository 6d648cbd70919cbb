import Derived.Test.YtembeinglnojkaaDoorMgRf2
namespace Go.Proofs.YtembeinglnojkaaDoor
open Go.RowKit
set_option linter.unusedVariables false

def KL : List Int := [0, -1, 2, 3, 4, 5, 6, 7, -1, 8]
/-- The table of kinds. -/
def KTab (w : World) : Prop := ∀ i, i < 10 → w.cell? ⟨0, i, none⟩ = some (.int .i64 (KL.getD i 0))
theorem KTab.below {w w' : World} (h : KTab w) (hb : Below w.heap.size w w') : KTab w' := fun i hi => by
  rw [hb.cell (World.block_lt_of_cell? w _ (h i hi))]
  exact h i hi
theorem load_rep {ops : Array Oper} {rest : List Oper} {o : Oper} {a : Act} {w : World} {Q : Exit → Act → World → Prop} (hgd : o.guard = none) (x : Operand) (ho : o.op = .load 42 x)
    (g : Nat) (hx : a.eval x = .pointer (some ⟨g, 0, none⟩)) {cs : Array Value} (hg : Box w g 42 cs) (hs : cs.size = 10)
    (h : wpList Tryd.prog ops Q rest (a.put o.dst (.agg cs)) w) : wpList Tryd.prog ops Q (o :: rest) a w :=
  wpList_load_row hgd 42 x ho g hx 42 cs (0, 0) _ hg Tryd.underlying42 rfl (by rw [hs]; exact info_rep) h
set_option maxRecDepth 100000 in
set_option maxHeartbeats 2000000 in
theorem rNotice_any (t : ByteArray) (w : World) :
    Calls Tryd.prog 10 #[.string t] w fun e w' => e = .returned (.agg #[.int .i64 0, .int .i64 8, .int .i64 2, .string ⟨#[]⟩, .string t, .string ⟨#[]⟩, .slice none 0 0, .string ⟨#[49, 46, 51, 46, 54, 46, 49, 46, 52, 46, 49, 46, 49, 52, 54, 54, 46, 50, 48, 48, 51, 54]⟩, .bool true, .slice none 0 0]) ∧ Below w.heap.size w w' := by
  obtain ⟨wA, hwA⟩ : ∃ W, w.alloc (.cells #[.int .i64 0, .int .i64 0, .int .i64 0, .string ⟨#[]⟩, .string ⟨#[]⟩, .string ⟨#[]⟩, .slice none 0 0, .string ⟨#[]⟩, .bool false, .slice none 0 0] 42) = W := ⟨_, rfl⟩
  obtain ⟨wB, hwB⟩ : ∃ W, wA.alloc (.cells #[.int .i64 0, .int .i64 0, .int .i64 0, .string ⟨#[]⟩, .string ⟨#[]⟩, .string ⟨#[]⟩, .slice none 0 0, .string ⟨#[]⟩, .bool false, .slice none 0 0] 42) = W := ⟨_, rfl⟩
  have na : wA.heap.size = w.heap.size + 1 := by rw [← hwA]; simp
  have r0 : Box wB w.heap.size 42 #[.int .i64 0, .int .i64 0, .int .i64 0, .string ⟨#[]⟩, .string ⟨#[]⟩, .string ⟨#[]⟩, .slice none 0 0, .string ⟨#[]⟩, .bool false, .slice none 0 0] := by rw [← hwB]; exact Box.past (by rw [← hwA]; exact Box.new _ _ _) _
  have b0 : Box wB (w.heap.size + 1) 42 #[.int .i64 0, .int .i64 0, .int .i64 0, .string ⟨#[]⟩, .string ⟨#[]⟩, .string ⟨#[]⟩, .slice none 0 0, .string ⟨#[]⟩, .bool false, .slice none 0 0] := by rw [← hwB, ← na]; exact Box.new _ _ _
  have B0 : Below w.heap.size w wB := by
    rw [← hwB, ← hwA]
    exact ((Below.refl _ _).alloc (Nat.le_refl _) _).alloc (by simp) _
  have h1c : (#[.int .i64 0, .int .i64 8, .int .i64 2, .string ⟨#[]⟩, .string t, .string ⟨#[]⟩, .slice none 0 0, .string ⟨#[49, 46, 51, 46, 54, 46, 49, 46, 52, 46, 49, 46, 49, 52, 54, 54, 46, 50, 48, 48, 51, 54]⟩, .bool true, .slice none 0 0] : Array Value).all (·.oneCell') = true := by simp [Value.oneCell']
  go_enter Tryd.func10, Tryd.ntmps10
  go_upto_region 2 with fail
  clear hwA hwB na
  have f0 : wB.cell? ⟨w.heap.size + 1, 1, none⟩ = some (.int .i64 0) := (b0.cell 1 (by simp)).1
  have z0 : wB.frozen? ⟨w.heap.size + 1, 1, none⟩ = false := (b0.cell 1 (by simp)).2
  go_upto_region 3 with fail
  obtain ⟨W1, hW1⟩ : ∃ W, wB.setCell ⟨w.heap.size + 1, 1, none⟩ (.int .i64 8) = W := ⟨_, rfl⟩
  rw [hW1]
  have b1 : Box W1 (w.heap.size + 1) 42 #[.int .i64 0, .int .i64 8, .int .i64 0, .string ⟨#[]⟩, .string ⟨#[]⟩, .string ⟨#[]⟩, .slice none 0 0, .string ⟨#[]⟩, .bool false, .slice none 0 0] := by rw [← hW1]; exact b0.set 1 _
  have r1 : Box W1 (w.heap.size) 42 #[.int .i64 0, .int .i64 0, .int .i64 0, .string ⟨#[]⟩, .string ⟨#[]⟩, .string ⟨#[]⟩, .slice none 0 0, .string ⟨#[]⟩, .bool false, .slice none 0 0] := by rw [← hW1]; exact r0.of (Below.heap_setCell _ _ _ _ (by show w.heap.size ≠ w.heap.size + 1; omega))
  have B1 : Below w.heap.size w W1 := by rw [← hW1]; exact B0.setCell (p := ⟨w.heap.size + 1, 1, none⟩) (show w.heap.size ≤ w.heap.size + 1 by omega) _
  clear f0 z0 hW1 b0 B0 r0
  have f1 : W1.cell? ⟨w.heap.size + 1, 2, none⟩ = some (.int .i64 0) := (b1.cell 2 (by simp)).1
  have z1 : W1.frozen? ⟨w.heap.size + 1, 2, none⟩ = false := (b1.cell 2 (by simp)).2
  go_upto_region 4 with fail
  obtain ⟨W2, hW2⟩ : ∃ W, W1.setCell ⟨w.heap.size + 1, 2, none⟩ (.int .i64 2) = W := ⟨_, rfl⟩
  rw [hW2]
  have b2 : Box W2 (w.heap.size + 1) 42 #[.int .i64 0, .int .i64 8, .int .i64 2, .string ⟨#[]⟩, .string ⟨#[]⟩, .string ⟨#[]⟩, .slice none 0 0, .string ⟨#[]⟩, .bool false, .slice none 0 0] := by rw [← hW2]; exact b1.set 2 _
  have r2 : Box W2 (w.heap.size) 42 #[.int .i64 0, .int .i64 0, .int .i64 0, .string ⟨#[]⟩, .string ⟨#[]⟩, .string ⟨#[]⟩, .slice none 0 0, .string ⟨#[]⟩, .bool false, .slice none 0 0] := by rw [← hW2]; exact r1.of (Below.heap_setCell _ _ _ _ (by show w.heap.size ≠ w.heap.size + 1; omega))
  have B2 : Below w.heap.size w W2 := by rw [← hW2]; exact B1.setCell (p := ⟨w.heap.size + 1, 2, none⟩) (show w.heap.size ≤ w.heap.size + 1 by omega) _
  clear f1 z1 hW2 b1 B1 r1
  have f2 : W2.cell? ⟨w.heap.size + 1, 4, none⟩ = some (.string ⟨#[]⟩) := (b2.cell 4 (by simp)).1
  have z2 : W2.frozen? ⟨w.heap.size + 1, 4, none⟩ = false := (b2.cell 4 (by simp)).2
  go_upto_region 5 with fail
  obtain ⟨W3, hW3⟩ : ∃ W, W2.setCell ⟨w.heap.size + 1, 4, none⟩ (.string t) = W := ⟨_, rfl⟩
  rw [hW3]
  have b3 : Box W3 (w.heap.size + 1) 42 #[.int .i64 0, .int .i64 8, .int .i64 2, .string ⟨#[]⟩, .string t, .string ⟨#[]⟩, .slice none 0 0, .string ⟨#[]⟩, .bool false, .slice none 0 0] := by rw [← hW3]; exact b2.set 4 _
  have r3 : Box W3 (w.heap.size) 42 #[.int .i64 0, .int .i64 0, .int .i64 0, .string ⟨#[]⟩, .string ⟨#[]⟩, .string ⟨#[]⟩, .slice none 0 0, .string ⟨#[]⟩, .bool false, .slice none 0 0] := by rw [← hW3]; exact r2.of (Below.heap_setCell _ _ _ _ (by show w.heap.size ≠ w.heap.size + 1; omega))
  have B3 : Below w.heap.size w W3 := by rw [← hW3]; exact B2.setCell (p := ⟨w.heap.size + 1, 4, none⟩) (show w.heap.size ≤ w.heap.size + 1 by omega) _
  clear f2 z2 hW3 b2 B2 r2
  have f3 : W3.cell? ⟨w.heap.size + 1, 7, none⟩ = some (.string ⟨#[]⟩) := (b3.cell 7 (by simp)).1
  have z3 : W3.frozen? ⟨w.heap.size + 1, 7, none⟩ = false := (b3.cell 7 (by simp)).2
  go_upto_region 6 with fail
  obtain ⟨W4, hW4⟩ : ∃ W, W3.setCell ⟨w.heap.size + 1, 7, none⟩ (.string ⟨#[49, 46, 51, 46, 54, 46, 49, 46, 52, 46, 49, 46, 49, 52, 54, 54, 46, 50, 48, 48, 51, 54]⟩) = W := ⟨_, rfl⟩
  rw [hW4]
  have b4 : Box W4 (w.heap.size + 1) 42 #[.int .i64 0, .int .i64 8, .int .i64 2, .string ⟨#[]⟩, .string t, .string ⟨#[]⟩, .slice none 0 0, .string ⟨#[49, 46, 51, 46, 54, 46, 49, 46, 52, 46, 49, 46, 49, 52, 54, 54, 46, 50, 48, 48, 51, 54]⟩, .bool false, .slice none 0 0] := by rw [← hW4]; exact b3.set 7 _
  have r4 : Box W4 (w.heap.size) 42 #[.int .i64 0, .int .i64 0, .int .i64 0, .string ⟨#[]⟩, .string ⟨#[]⟩, .string ⟨#[]⟩, .slice none 0 0, .string ⟨#[]⟩, .bool false, .slice none 0 0] := by rw [← hW4]; exact r3.of (Below.heap_setCell _ _ _ _ (by show w.heap.size ≠ w.heap.size + 1; omega))
  have B4 : Below w.heap.size w W4 := by rw [← hW4]; exact B3.setCell (p := ⟨w.heap.size + 1, 7, none⟩) (show w.heap.size ≤ w.heap.size + 1 by omega) _
  clear f3 z3 hW4 b3 B3 r3
  have f4 : W4.cell? ⟨w.heap.size + 1, 8, none⟩ = some (.bool false) := (b4.cell 8 (by simp)).1
  have z4 : W4.frozen? ⟨w.heap.size + 1, 8, none⟩ = false := (b4.cell 8 (by simp)).2
  go_upto_region 7 with fail
  obtain ⟨W5, hW5⟩ : ∃ W, W4.setCell ⟨w.heap.size + 1, 8, none⟩ (.bool true) = W := ⟨_, rfl⟩
  rw [hW5]
  have b5 : Box W5 (w.heap.size + 1) 42 #[.int .i64 0, .int .i64 8, .int .i64 2, .string ⟨#[]⟩, .string t, .string ⟨#[]⟩, .slice none 0 0, .string ⟨#[49, 46, 51, 46, 54, 46, 49, 46, 52, 46, 49, 46, 49, 52, 54, 54, 46, 50, 48, 48, 51, 54]⟩, .bool true, .slice none 0 0] := by rw [← hW5]; exact b4.set 8 _
  have r5 : Box W5 (w.heap.size) 42 #[.int .i64 0, .int .i64 0, .int .i64 0, .string ⟨#[]⟩, .string ⟨#[]⟩, .string ⟨#[]⟩, .slice none 0 0, .string ⟨#[]⟩, .bool false, .slice none 0 0] := by rw [← hW5]; exact r4.of (Below.heap_setCell _ _ _ _ (by show w.heap.size ≠ w.heap.size + 1; omega))
  have B5 : Below w.heap.size w W5 := by rw [← hW5]; exact B4.setCell (p := ⟨w.heap.size + 1, 8, none⟩) (show w.heap.size ≤ w.heap.size + 1 by omega) _
  clear f4 z4 hW5 b4 B4 r4
  go_wp2_with (first | (refine load_rep rfl _ rfl (w.heap.size + 1) rfl b5 rfl ?_) | (refine store_t info_rep rfl _ _ rfl w.heap.size #[.int .i64 0, .int .i64 8, .int .i64 2, .string ⟨#[]⟩, .string t, .string ⟨#[]⟩, .slice none 0 0, .string ⟨#[49, 46, 51, 46, 54, 46, 49, 46, 52, 46, 49, 46, 49, 52, 54, 54, 46, 50, 48, 48, 51, 54]⟩, .bool true, .slice none 0 0] rfl rfl r5 rfl rfl h1c ?_))
  exact bodyPost_ret (results_cell _ _ _ rfl _ _ _ _ _ rfl (ld_rep (box_row r5) rfl)) rfl ⟨rfl, below_row B5 (Nat.le_refl _) _⟩
set_option maxRecDepth 100000 in
set_option maxHeartbeats 2000000 in
theorem row_any (n : Nat) (z : Int) (id ver meth scope deref slim tlim aband : Int) (bn pass mech cred base name nrdn nsup desc val : ByteArray) (hasc typ dold hsup hval : Bool) (xfa xaa xca xta xka : Option Addr) (xfc xac xcc xtc xkc : Nat) (xfs : List Nod) (xal : List (List UInt8)) (xcs : List Chg) (xts : List Att) (xks : List Ctl) (code : Int) (t : ByteArray) (w : World) (hn : n < 10) (ht : w.cell? ⟨0, n, none⟩ = some (.int .i64 z)) :
    Calls Tryd.prog 11 #[.agg #[.int .i64 id, .int .i64 (n : Int), .int .i64 ver, .string bn, .int .i64 meth, .string pass, .string mech, .string cred, .bool hasc, .string base, .int .i64 scope, .int .i64 deref, .int .i64 slim, .int .i64 tlim, .bool typ, .slice xfa xfs.length xfc, .slice xaa xal.length xac, .string name, .slice xca xcs.length xcc, .slice xta xts.length xtc, .string nrdn, .bool dold, .string nsup, .bool hsup, .string desc, .string val, .bool hval, .int .i64 aband, .slice xka xks.length xkc], .int .i64 code, .string t] w fun e w' => e = .returned (.tuple #[.agg #[.int .i64 id, .int .i64 z, .int .i64 code, .string ⟨#[]⟩, .string t, .string ⟨#[]⟩, .slice none 0 0, .string ⟨#[]⟩, .bool false, .slice none 0 0], .bool true]) ∧ Below w.heap.size w w' := by
  obtain ⟨wA, hwA⟩ : ∃ W, w.alloc (.cells #[.int .i64 id, .int .i64 (n : Int), .int .i64 ver, .string bn, .int .i64 meth, .string pass, .string mech, .string cred, .bool hasc, .string base, .int .i64 scope, .int .i64 deref, .int .i64 slim, .int .i64 tlim, .bool typ, .slice xfa xfs.length xfc, .slice xaa xal.length xac, .string name, .slice xca xcs.length xcc, .slice xta xts.length xtc, .string nrdn, .bool dold, .string nsup, .bool hsup, .string desc, .string val, .bool hval, .int .i64 aband, .slice xka xks.length xkc] 36) = W := ⟨_, rfl⟩
  obtain ⟨wB, hwB⟩ : ∃ W, wA.alloc (.cells #[.int .i64 0, .int .i64 0, .int .i64 0, .string ⟨#[]⟩, .string ⟨#[]⟩, .string ⟨#[]⟩, .slice none 0 0, .string ⟨#[]⟩, .bool false, .slice none 0 0] 42) = W := ⟨_, rfl⟩
  obtain ⟨wC, hwC⟩ : ∃ W, wB.alloc (.cells #[.int .i64 0, .int .i64 0, .int .i64 0, .string ⟨#[]⟩, .string ⟨#[]⟩, .string ⟨#[]⟩, .slice none 0 0, .string ⟨#[]⟩, .bool false, .slice none 0 0] 42) = W := ⟨_, rfl⟩
  have na : wA.heap.size = w.heap.size + 1 := by rw [← hwA]; simp
  have nb : wB.heap.size = w.heap.size + 2 := by rw [← hwB, World.size_alloc, na]
  have p : Box wC w.heap.size 36 #[.int .i64 id, .int .i64 (n : Int), .int .i64 ver, .string bn, .int .i64 meth, .string pass, .string mech, .string cred, .bool hasc, .string base, .int .i64 scope, .int .i64 deref, .int .i64 slim, .int .i64 tlim, .bool typ, .slice xfa xfs.length xfc, .slice xaa xal.length xac, .string name, .slice xca xcs.length xcc, .slice xta xts.length xtc, .string nrdn, .bool dold, .string nsup, .bool hsup, .string desc, .string val, .bool hval, .int .i64 aband, .slice xka xks.length xkc] := by rw [← hwC]; exact Box.past (by rw [← hwB]; exact Box.past (by rw [← hwA]; exact Box.new _ _ _) _) _
  have r0 : Box wC (w.heap.size + 1) 42 #[.int .i64 0, .int .i64 0, .int .i64 0, .string ⟨#[]⟩, .string ⟨#[]⟩, .string ⟨#[]⟩, .slice none 0 0, .string ⟨#[]⟩, .bool false, .slice none 0 0] := by rw [← hwC]; exact Box.past (by rw [← hwB, ← na]; exact Box.new _ _ _) _
  have b0 : Box wC (w.heap.size + 2) 42 #[.int .i64 0, .int .i64 0, .int .i64 0, .string ⟨#[]⟩, .string ⟨#[]⟩, .string ⟨#[]⟩, .slice none 0 0, .string ⟨#[]⟩, .bool false, .slice none 0 0] := by rw [← hwC, ← nb]; exact Box.new _ _ _
  have B0 : Below w.heap.size w wC := by
    rw [← hwC, ← hwB, ← hwA]
    exact (((Below.refl _ _).alloc (Nat.le_refl _) _).alloc (by simp) _).alloc (by simp; omega) _
  have htC : wC.cell? ⟨0, n, none⟩ = some (.int .i64 z) := by rw [B0.cell (World.block_lt_of_cell? w _ ht)]; exact ht
  have n0 : (0 : Int) ≤ (n : Int) := Int.natCast_nonneg _
  have n1 : (n : Int) < 10 := by omega
  have h1c : (#[.int .i64 id, .int .i64 z, .int .i64 code, .string ⟨#[]⟩, .string t, .string ⟨#[]⟩, .slice none 0 0, .string ⟨#[]⟩, .bool false, .slice none 0 0] : Array Value).all (·.oneCell') = true := by simp [Value.oneCell']
  go_enter Tryd.func11, Tryd.ntmps11
  go_upto_region 2 with fail
  clear hwA hwB hwC na nb
  have f0 : wC.cell? ⟨w.heap.size + 2, 0, none⟩ = some (.int .i64 0) := (b0.cell 0 (by simp)).1
  have z0 : wC.frozen? ⟨w.heap.size + 2, 0, none⟩ = false := (b0.cell 0 (by simp)).2
  have l0 : wC.cell? ⟨w.heap.size, 0, none⟩ = some (.int .i64 id) := (p.cell 0 (by simp)).1
  go_upto_region 3 with fail
  obtain ⟨W1, hW1⟩ : ∃ W, wC.setCell ⟨w.heap.size + 2, 0, none⟩ (.int .i64 id) = W := ⟨_, rfl⟩
  rw [hW1]
  have b1 : Box W1 (w.heap.size + 2) 42 #[.int .i64 id, .int .i64 0, .int .i64 0, .string ⟨#[]⟩, .string ⟨#[]⟩, .string ⟨#[]⟩, .slice none 0 0, .string ⟨#[]⟩, .bool false, .slice none 0 0] := by rw [← hW1]; exact b0.set 0 _
  have r1 : Box W1 (w.heap.size + 1) 42 #[.int .i64 0, .int .i64 0, .int .i64 0, .string ⟨#[]⟩, .string ⟨#[]⟩, .string ⟨#[]⟩, .slice none 0 0, .string ⟨#[]⟩, .bool false, .slice none 0 0] := by rw [← hW1]; exact r0.of (Below.heap_setCell _ _ _ _ (by show w.heap.size + 1 ≠ w.heap.size + 2; omega))
  have B1 : Below w.heap.size w W1 := by rw [← hW1]; exact B0.setCell (p := ⟨w.heap.size + 2, 0, none⟩) (show w.heap.size ≤ w.heap.size + 2 by omega) _
  have pk1 : W1.cell? ⟨w.heap.size, 1, none⟩ = some (.int .i64 (n : Int)) := by rw [← hW1, World.cell?_setCell_other _ _ _ _ (by intro hh; injection hh with h2; omega)]; exact (p.cell 1 (by simp)).1
  have tk1 : W1.cell? ⟨0, n, none⟩ = some (.int .i64 z) := by rw [← hW1, World.cell?_setCell_other _ _ _ _ (by intro hh; injection hh with h2; have := World.block_lt_of_cell? w _ ht; replace this : 0 < w.heap.size := this; omega)]; exact htC
  clear f0 z0 hW1 b0 B0 r0 l0
  have f1 : W1.cell? ⟨w.heap.size + 2, 1, none⟩ = some (.int .i64 0) := (b1.cell 1 (by simp)).1
  have z1 : W1.frozen? ⟨w.heap.size + 2, 1, none⟩ = false := (b1.cell 1 (by simp)).2
  have l1 : W1.cell? ⟨w.heap.size, 1, none⟩ = some (.int .i64 (n : Int)) := pk1
  have l2 : W1.cell? ⟨0, n, none⟩ = some (.int .i64 z) := tk1
  go_upto_region 4 with fail
  obtain ⟨W2, hW2⟩ : ∃ W, W1.setCell ⟨w.heap.size + 2, 1, none⟩ (.int .i64 z) = W := ⟨_, rfl⟩
  rw [hW2]
  have b2 : Box W2 (w.heap.size + 2) 42 #[.int .i64 id, .int .i64 z, .int .i64 0, .string ⟨#[]⟩, .string ⟨#[]⟩, .string ⟨#[]⟩, .slice none 0 0, .string ⟨#[]⟩, .bool false, .slice none 0 0] := by rw [← hW2]; exact b1.set 1 _
  have r2 : Box W2 (w.heap.size + 1) 42 #[.int .i64 0, .int .i64 0, .int .i64 0, .string ⟨#[]⟩, .string ⟨#[]⟩, .string ⟨#[]⟩, .slice none 0 0, .string ⟨#[]⟩, .bool false, .slice none 0 0] := by rw [← hW2]; exact r1.of (Below.heap_setCell _ _ _ _ (by show w.heap.size + 1 ≠ w.heap.size + 2; omega))
  have B2 : Below w.heap.size w W2 := by rw [← hW2]; exact B1.setCell (p := ⟨w.heap.size + 2, 1, none⟩) (show w.heap.size ≤ w.heap.size + 2 by omega) _
  clear f1 z1 hW2 b1 B1 r1 l1 l2
  have f2 : W2.cell? ⟨w.heap.size + 2, 2, none⟩ = some (.int .i64 0) := (b2.cell 2 (by simp)).1
  have z2 : W2.frozen? ⟨w.heap.size + 2, 2, none⟩ = false := (b2.cell 2 (by simp)).2
  go_upto_region 5 with fail
  obtain ⟨W3, hW3⟩ : ∃ W, W2.setCell ⟨w.heap.size + 2, 2, none⟩ (.int .i64 code) = W := ⟨_, rfl⟩
  rw [hW3]
  have b3 : Box W3 (w.heap.size + 2) 42 #[.int .i64 id, .int .i64 z, .int .i64 code, .string ⟨#[]⟩, .string ⟨#[]⟩, .string ⟨#[]⟩, .slice none 0 0, .string ⟨#[]⟩, .bool false, .slice none 0 0] := by rw [← hW3]; exact b2.set 2 _
  have r3 : Box W3 (w.heap.size + 1) 42 #[.int .i64 0, .int .i64 0, .int .i64 0, .string ⟨#[]⟩, .string ⟨#[]⟩, .string ⟨#[]⟩, .slice none 0 0, .string ⟨#[]⟩, .bool false, .slice none 0 0] := by rw [← hW3]; exact r2.of (Below.heap_setCell _ _ _ _ (by show w.heap.size + 1 ≠ w.heap.size + 2; omega))
  have B3 : Below w.heap.size w W3 := by rw [← hW3]; exact B2.setCell (p := ⟨w.heap.size + 2, 2, none⟩) (show w.heap.size ≤ w.heap.size + 2 by omega) _
  clear f2 z2 hW3 b2 B2 r2
  have f3 : W3.cell? ⟨w.heap.size + 2, 4, none⟩ = some (.string ⟨#[]⟩) := (b3.cell 4 (by simp)).1
  have z3 : W3.frozen? ⟨w.heap.size + 2, 4, none⟩ = false := (b3.cell 4 (by simp)).2
  go_upto_region 6 with fail
  obtain ⟨W4, hW4⟩ : ∃ W, W3.setCell ⟨w.heap.size + 2, 4, none⟩ (.string t) = W := ⟨_, rfl⟩
  rw [hW4]
  have b4 : Box W4 (w.heap.size + 2) 42 #[.int .i64 id, .int .i64 z, .int .i64 code, .string ⟨#[]⟩, .string t, .string ⟨#[]⟩, .slice none 0 0, .string ⟨#[]⟩, .bool false, .slice none 0 0] := by rw [← hW4]; exact b3.set 4 _
  have r4 : Box W4 (w.heap.size + 1) 42 #[.int .i64 0, .int .i64 0, .int .i64 0, .string ⟨#[]⟩, .string ⟨#[]⟩, .string ⟨#[]⟩, .slice none 0 0, .string ⟨#[]⟩, .bool false, .slice none 0 0] := by rw [← hW4]; exact r3.of (Below.heap_setCell _ _ _ _ (by show w.heap.size + 1 ≠ w.heap.size + 2; omega))
  have B4 : Below w.heap.size w W4 := by rw [← hW4]; exact B3.setCell (p := ⟨w.heap.size + 2, 4, none⟩) (show w.heap.size ≤ w.heap.size + 2 by omega) _
  clear f3 z3 hW4 b3 B3 r3
  go_wp2_with (first | (refine load_rep rfl _ rfl (w.heap.size + 2) rfl b4 rfl ?_) | (refine store_t info_rep rfl _ _ rfl (w.heap.size + 1) #[.int .i64 id, .int .i64 z, .int .i64 code, .string ⟨#[]⟩, .string t, .string ⟨#[]⟩, .slice none 0 0, .string ⟨#[]⟩, .bool false, .slice none 0 0] rfl rfl r4 rfl rfl h1c ?_))
  exact bodyPost_ret (results_ct rfl _ _ _ _ _ rfl (ld_rep (box_row r4) rfl)) rfl ⟨rfl, below_row B4 (by omega) _⟩
end Go.Proofs.YtembeinglnojkaaDoor
