import Derived.Test.YtembeinglnojkaaDoorMgRf3
namespace Go.Proofs.YtembeinglnojkaaDoor
open Go.RowKit
set_option linter.unusedVariables false

set_option maxRecDepth 100000 in
set_option maxHeartbeats 4000000 in
theorem rRef1 (id ver meth scope deref slim tlim aband : Int) (bn pass mech cred base name nrdn nsup desc val : ByteArray) (hasc typ dold hsup hval : Bool) (xfa xaa xca xta xka : Option Addr) (xfc xac xcc xtc xkc : Nat) (xfs : List Nod) (xal : List (List UInt8)) (xcs : List Chg) (xts : List Att) (xks : List Ctl) (w : World) (hn : xks.length ≤ 2932031007317) (h : GRow 4 oV w xka xks) (hT : KTab w) :
    Calls Tryd.prog 4 #[.agg #[.int .i64 id, .int .i64 1, .int .i64 ver, .string bn, .int .i64 meth, .string pass, .string mech, .string cred, .bool hasc, .string base, .int .i64 scope, .int .i64 deref, .int .i64 slim, .int .i64 tlim, .bool typ, .slice xfa xfs.length xfc, .slice xaa xal.length xac, .string name, .slice xca xcs.length xcc, .slice xta xts.length xtc, .string nrdn, .bool dold, .string nsup, .bool hsup, .string desc, .string val, .bool hval, .int .i64 aband, .slice xka xks.length xkc]] w fun e w' => e = .returned (outV ⟨id, 1, ver, bn, meth, pass, mech, cred, hasc, base, scope, deref, slim, tlim, typ, name, nrdn, dold, nsup, hsup, desc, val, hval, aband⟩ (xks.any Ctl.crit)) ∧ Below w.heap.size w w' := by
  obtain ⟨wA, hwA⟩ : ∃ W, w.alloc (.cells #[.int .i64 id, .int .i64 1, .int .i64 ver, .string bn, .int .i64 meth, .string pass, .string mech, .string cred, .bool hasc, .string base, .int .i64 scope, .int .i64 deref, .int .i64 slim, .int .i64 tlim, .bool typ, .slice xfa xfs.length xfc, .slice xaa xal.length xac, .string name, .slice xca xcs.length xcc, .slice xta xts.length xtc, .string nrdn, .bool dold, .string nsup, .bool hsup, .string desc, .string val, .bool hval, .int .i64 aband, .slice xka xks.length xkc] 36) = W := ⟨_, rfl⟩
  obtain ⟨wB, hwB⟩ : ∃ W, wA.alloc (.cells #[.int .i64 0, .int .i64 0, .int .i64 0, .string ⟨#[]⟩, .string ⟨#[]⟩, .string ⟨#[]⟩, .slice none 0 0, .string ⟨#[]⟩, .bool false, .slice none 0 0] 42) = W := ⟨_, rfl⟩
  have na : wA.heap.size = w.heap.size + 1 := by rw [← hwA]; simp
  have p : Box wB w.heap.size 36 #[.int .i64 id, .int .i64 1, .int .i64 ver, .string bn, .int .i64 meth, .string pass, .string mech, .string cred, .bool hasc, .string base, .int .i64 scope, .int .i64 deref, .int .i64 slim, .int .i64 tlim, .bool typ, .slice xfa xfs.length xfc, .slice xaa xal.length xac, .string name, .slice xca xcs.length xcc, .slice xta xts.length xtc, .string nrdn, .bool dold, .string nsup, .bool hsup, .string desc, .string val, .bool hval, .int .i64 aband, .slice xka xks.length xkc] := by rw [← hwB]; exact Box.past (by rw [← hwA]; exact Box.new _ _ _) _
  have q : Box wB (w.heap.size + 1) 42 #[.int .i64 0, .int .i64 0, .int .i64 0, .string ⟨#[]⟩, .string ⟨#[]⟩, .string ⟨#[]⟩, .slice none 0 0, .string ⟨#[]⟩, .bool false, .slice none 0 0] := by rw [← hwB, ← na]; exact Box.new _ _ _
  have hB : Below w.heap.size w wB := by
    rw [← hwB, ← hwA]
    exact ((Below.refl _ _).alloc (Nat.le_refl _) _).alloc (by simp) _
  have c1 : wB.cell? ⟨w.heap.size, 1, none⟩ = some (.int .i64 1) := (p.cell 1 (by simp)).1
  have t1 : wB.cell? ⟨0, 1, none⟩ = some (.int .i64 (-1)) := hT.below hB 1 (by decide)
  have hV : Hid (outV ⟨id, 1, ver, bn, meth, pass, mech, cred, hasc, base, scope, deref, slim, tlim, typ, name, nrdn, dold, nsup, hsup, desc, val, hval, aband⟩ (xks.any Ctl.crit) = .tuple #[.agg #[.int .i64 0, .int .i64 0, .int .i64 0, .string ⟨#[]⟩, .string ⟨#[]⟩, .string ⟨#[]⟩, .slice none 0 0, .string ⟨#[]⟩, .bool false, .slice none 0 0], .bool false]) := rfl
  have hB' : Hid (Below w.heap.size w wB) := hB
  have h1c : (#[.int .i64 0, .int .i64 0, .int .i64 0, .string ⟨#[]⟩, .string ⟨#[]⟩, .string ⟨#[]⟩, .slice none 0 0, .string ⟨#[]⟩, .bool false, .slice none 0 0] : Array Value).all (·.oneCell') = true := by simp [Value.oneCell']
  clear h hT
  go_enter Tryd.func4, Tryd.ntmps4
  go_upto_region 1 with fail
  clear hwA hwB na
  go_wp2_with (refine store_t info_rep rfl _ _ rfl (w.heap.size + 1) #[.int .i64 0, .int .i64 0, .int .i64 0, .string ⟨#[]⟩, .string ⟨#[]⟩, .string ⟨#[]⟩, .slice none 0 0, .string ⟨#[]⟩, .bool false, .slice none 0 0] rfl rfl q rfl rfl h1c ?_)
  exact bodyPost_ret (results_ct rfl _ _ _ _ _ rfl (ld_rep (box_row q) rfl)) rfl ⟨by rw [hV.out]; rfl, below_row hB'.out (by omega) _⟩
set_option maxRecDepth 100000 in
set_option maxHeartbeats 4000000 in
theorem rRef8 (id ver meth scope deref slim tlim aband : Int) (bn pass mech cred base name nrdn nsup desc val : ByteArray) (hasc typ dold hsup hval : Bool) (xfa xaa xca xta xka : Option Addr) (xfc xac xcc xtc xkc : Nat) (xfs : List Nod) (xal : List (List UInt8)) (xcs : List Chg) (xts : List Att) (xks : List Ctl) (w : World) (hn : xks.length ≤ 2932031007317) (h : GRow 4 oV w xka xks) (hT : KTab w) :
    Calls Tryd.prog 4 #[.agg #[.int .i64 id, .int .i64 8, .int .i64 ver, .string bn, .int .i64 meth, .string pass, .string mech, .string cred, .bool hasc, .string base, .int .i64 scope, .int .i64 deref, .int .i64 slim, .int .i64 tlim, .bool typ, .slice xfa xfs.length xfc, .slice xaa xal.length xac, .string name, .slice xca xcs.length xcc, .slice xta xts.length xtc, .string nrdn, .bool dold, .string nsup, .bool hsup, .string desc, .string val, .bool hval, .int .i64 aband, .slice xka xks.length xkc]] w fun e w' => e = .returned (outV ⟨id, 8, ver, bn, meth, pass, mech, cred, hasc, base, scope, deref, slim, tlim, typ, name, nrdn, dold, nsup, hsup, desc, val, hval, aband⟩ (xks.any Ctl.crit)) ∧ Below w.heap.size w w' := by
  obtain ⟨wA, hwA⟩ : ∃ W, w.alloc (.cells #[.int .i64 id, .int .i64 8, .int .i64 ver, .string bn, .int .i64 meth, .string pass, .string mech, .string cred, .bool hasc, .string base, .int .i64 scope, .int .i64 deref, .int .i64 slim, .int .i64 tlim, .bool typ, .slice xfa xfs.length xfc, .slice xaa xal.length xac, .string name, .slice xca xcs.length xcc, .slice xta xts.length xtc, .string nrdn, .bool dold, .string nsup, .bool hsup, .string desc, .string val, .bool hval, .int .i64 aband, .slice xka xks.length xkc] 36) = W := ⟨_, rfl⟩
  obtain ⟨wB, hwB⟩ : ∃ W, wA.alloc (.cells #[.int .i64 0, .int .i64 0, .int .i64 0, .string ⟨#[]⟩, .string ⟨#[]⟩, .string ⟨#[]⟩, .slice none 0 0, .string ⟨#[]⟩, .bool false, .slice none 0 0] 42) = W := ⟨_, rfl⟩
  have na : wA.heap.size = w.heap.size + 1 := by rw [← hwA]; simp
  have p : Box wB w.heap.size 36 #[.int .i64 id, .int .i64 8, .int .i64 ver, .string bn, .int .i64 meth, .string pass, .string mech, .string cred, .bool hasc, .string base, .int .i64 scope, .int .i64 deref, .int .i64 slim, .int .i64 tlim, .bool typ, .slice xfa xfs.length xfc, .slice xaa xal.length xac, .string name, .slice xca xcs.length xcc, .slice xta xts.length xtc, .string nrdn, .bool dold, .string nsup, .bool hsup, .string desc, .string val, .bool hval, .int .i64 aband, .slice xka xks.length xkc] := by rw [← hwB]; exact Box.past (by rw [← hwA]; exact Box.new _ _ _) _
  have q : Box wB (w.heap.size + 1) 42 #[.int .i64 0, .int .i64 0, .int .i64 0, .string ⟨#[]⟩, .string ⟨#[]⟩, .string ⟨#[]⟩, .slice none 0 0, .string ⟨#[]⟩, .bool false, .slice none 0 0] := by rw [← hwB, ← na]; exact Box.new _ _ _
  have hB : Below w.heap.size w wB := by
    rw [← hwB, ← hwA]
    exact ((Below.refl _ _).alloc (Nat.le_refl _) _).alloc (by simp) _
  have c1 : wB.cell? ⟨w.heap.size, 1, none⟩ = some (.int .i64 8) := (p.cell 1 (by simp)).1
  have t1 : wB.cell? ⟨0, 8, none⟩ = some (.int .i64 (-1)) := hT.below hB 8 (by decide)
  have hV : Hid (outV ⟨id, 8, ver, bn, meth, pass, mech, cred, hasc, base, scope, deref, slim, tlim, typ, name, nrdn, dold, nsup, hsup, desc, val, hval, aband⟩ (xks.any Ctl.crit) = .tuple #[.agg #[.int .i64 0, .int .i64 0, .int .i64 0, .string ⟨#[]⟩, .string ⟨#[]⟩, .string ⟨#[]⟩, .slice none 0 0, .string ⟨#[]⟩, .bool false, .slice none 0 0], .bool false]) := rfl
  have hB' : Hid (Below w.heap.size w wB) := hB
  have h1c : (#[.int .i64 0, .int .i64 0, .int .i64 0, .string ⟨#[]⟩, .string ⟨#[]⟩, .string ⟨#[]⟩, .slice none 0 0, .string ⟨#[]⟩, .bool false, .slice none 0 0] : Array Value).all (·.oneCell') = true := by simp [Value.oneCell']
  clear h hT
  go_enter Tryd.func4, Tryd.ntmps4
  go_upto_region 1 with fail
  clear hwA hwB na
  go_wp2_with (refine store_t info_rep rfl _ _ rfl (w.heap.size + 1) #[.int .i64 0, .int .i64 0, .int .i64 0, .string ⟨#[]⟩, .string ⟨#[]⟩, .string ⟨#[]⟩, .slice none 0 0, .string ⟨#[]⟩, .bool false, .slice none 0 0] rfl rfl q rfl rfl h1c ?_)
  exact bodyPost_ret (results_ct rfl _ _ _ _ _ rfl (ld_rep (box_row q) rfl)) rfl ⟨by rw [hV.out]; rfl, below_row hB'.out (by omega) _⟩
set_option maxRecDepth 100000 in
set_option maxHeartbeats 4000000 in
theorem rRefLow (id kind ver meth scope deref slim tlim aband : Int) (bn pass mech cred base name nrdn nsup desc val : ByteArray) (hasc typ dold hsup hval : Bool) (xfa xaa xca xta xka : Option Addr) (xfc xac xcc xtc xkc : Nat) (xfs : List Nod) (xal : List (List UInt8)) (xcs : List Chg) (xts : List Att) (xks : List Ctl) (w : World) (hn : xks.length ≤ 2932031007317) (h : GRow 4 oV w xka xks) (hT : KTab w) (hk : kind < 0) :
    Calls Tryd.prog 4 #[.agg #[.int .i64 id, .int .i64 kind, .int .i64 ver, .string bn, .int .i64 meth, .string pass, .string mech, .string cred, .bool hasc, .string base, .int .i64 scope, .int .i64 deref, .int .i64 slim, .int .i64 tlim, .bool typ, .slice xfa xfs.length xfc, .slice xaa xal.length xac, .string name, .slice xca xcs.length xcc, .slice xta xts.length xtc, .string nrdn, .bool dold, .string nsup, .bool hsup, .string desc, .string val, .bool hval, .int .i64 aband, .slice xka xks.length xkc]] w fun e w' => e = .returned (outV ⟨id, kind, ver, bn, meth, pass, mech, cred, hasc, base, scope, deref, slim, tlim, typ, name, nrdn, dold, nsup, hsup, desc, val, hval, aband⟩ (xks.any Ctl.crit)) ∧ Below w.heap.size w w' := by
  obtain ⟨wA, hwA⟩ : ∃ W, w.alloc (.cells #[.int .i64 id, .int .i64 kind, .int .i64 ver, .string bn, .int .i64 meth, .string pass, .string mech, .string cred, .bool hasc, .string base, .int .i64 scope, .int .i64 deref, .int .i64 slim, .int .i64 tlim, .bool typ, .slice xfa xfs.length xfc, .slice xaa xal.length xac, .string name, .slice xca xcs.length xcc, .slice xta xts.length xtc, .string nrdn, .bool dold, .string nsup, .bool hsup, .string desc, .string val, .bool hval, .int .i64 aband, .slice xka xks.length xkc] 36) = W := ⟨_, rfl⟩
  obtain ⟨wB, hwB⟩ : ∃ W, wA.alloc (.cells #[.int .i64 0, .int .i64 0, .int .i64 0, .string ⟨#[]⟩, .string ⟨#[]⟩, .string ⟨#[]⟩, .slice none 0 0, .string ⟨#[]⟩, .bool false, .slice none 0 0] 42) = W := ⟨_, rfl⟩
  have na : wA.heap.size = w.heap.size + 1 := by rw [← hwA]; simp
  have p : Box wB w.heap.size 36 #[.int .i64 id, .int .i64 kind, .int .i64 ver, .string bn, .int .i64 meth, .string pass, .string mech, .string cred, .bool hasc, .string base, .int .i64 scope, .int .i64 deref, .int .i64 slim, .int .i64 tlim, .bool typ, .slice xfa xfs.length xfc, .slice xaa xal.length xac, .string name, .slice xca xcs.length xcc, .slice xta xts.length xtc, .string nrdn, .bool dold, .string nsup, .bool hsup, .string desc, .string val, .bool hval, .int .i64 aband, .slice xka xks.length xkc] := by rw [← hwB]; exact Box.past (by rw [← hwA]; exact Box.new _ _ _) _
  have q : Box wB (w.heap.size + 1) 42 #[.int .i64 0, .int .i64 0, .int .i64 0, .string ⟨#[]⟩, .string ⟨#[]⟩, .string ⟨#[]⟩, .slice none 0 0, .string ⟨#[]⟩, .bool false, .slice none 0 0] := by rw [← hwB, ← na]; exact Box.new _ _ _
  have hB : Below w.heap.size w wB := by
    rw [← hwB, ← hwA]
    exact ((Below.refl _ _).alloc (Nat.le_refl _) _).alloc (by simp) _
  have c1 : wB.cell? ⟨w.heap.size, 1, none⟩ = some (.int .i64 kind) := (p.cell 1 (by simp)).1
  have a1 : decide (kind < 0) = true := decide_eq_true hk
  have hV : Hid (outV ⟨id, kind, ver, bn, meth, pass, mech, cred, hasc, base, scope, deref, slim, tlim, typ, name, nrdn, dold, nsup, hsup, desc, val, hval, aband⟩ (xks.any Ctl.crit) = .tuple #[.agg #[.int .i64 0, .int .i64 0, .int .i64 0, .string ⟨#[]⟩, .string ⟨#[]⟩, .string ⟨#[]⟩, .slice none 0 0, .string ⟨#[]⟩, .bool false, .slice none 0 0], .bool false]) := by
    unfold Hid outV
    rw [if_neg (by intro e; have := of_decide_eq_true e; dsimp only at this; omega)]
    rfl
  have hB' : Hid (Below w.heap.size w wB) := hB
  have h1c : (#[.int .i64 0, .int .i64 0, .int .i64 0, .string ⟨#[]⟩, .string ⟨#[]⟩, .string ⟨#[]⟩, .slice none 0 0, .string ⟨#[]⟩, .bool false, .slice none 0 0] : Array Value).all (·.oneCell') = true := by simp [Value.oneCell']
  clear h hT
  go_enter Tryd.func4, Tryd.ntmps4
  go_upto_region 1 with fail
  clear hwA hwB na
  go_wp2_with (refine store_t info_rep rfl _ _ rfl (w.heap.size + 1) #[.int .i64 0, .int .i64 0, .int .i64 0, .string ⟨#[]⟩, .string ⟨#[]⟩, .string ⟨#[]⟩, .slice none 0 0, .string ⟨#[]⟩, .bool false, .slice none 0 0] rfl rfl q rfl rfl h1c ?_)
  exact bodyPost_ret (results_ct rfl _ _ _ _ _ rfl (ld_rep (box_row q) rfl)) rfl ⟨by rw [hV.out]; rfl, below_row hB'.out (by omega) _⟩
set_option maxRecDepth 100000 in
set_option maxHeartbeats 4000000 in
theorem rRefHigh (id kind ver meth scope deref slim tlim aband : Int) (bn pass mech cred base name nrdn nsup desc val : ByteArray) (hasc typ dold hsup hval : Bool) (xfa xaa xca xta xka : Option Addr) (xfc xac xcc xtc xkc : Nat) (xfs : List Nod) (xal : List (List UInt8)) (xcs : List Chg) (xts : List Att) (xks : List Ctl) (w : World) (hn : xks.length ≤ 2932031007317) (h : GRow 4 oV w xka xks) (hT : KTab w) (hk : 9 < kind) :
    Calls Tryd.prog 4 #[.agg #[.int .i64 id, .int .i64 kind, .int .i64 ver, .string bn, .int .i64 meth, .string pass, .string mech, .string cred, .bool hasc, .string base, .int .i64 scope, .int .i64 deref, .int .i64 slim, .int .i64 tlim, .bool typ, .slice xfa xfs.length xfc, .slice xaa xal.length xac, .string name, .slice xca xcs.length xcc, .slice xta xts.length xtc, .string nrdn, .bool dold, .string nsup, .bool hsup, .string desc, .string val, .bool hval, .int .i64 aband, .slice xka xks.length xkc]] w fun e w' => e = .returned (outV ⟨id, kind, ver, bn, meth, pass, mech, cred, hasc, base, scope, deref, slim, tlim, typ, name, nrdn, dold, nsup, hsup, desc, val, hval, aband⟩ (xks.any Ctl.crit)) ∧ Below w.heap.size w w' := by
  obtain ⟨wA, hwA⟩ : ∃ W, w.alloc (.cells #[.int .i64 id, .int .i64 kind, .int .i64 ver, .string bn, .int .i64 meth, .string pass, .string mech, .string cred, .bool hasc, .string base, .int .i64 scope, .int .i64 deref, .int .i64 slim, .int .i64 tlim, .bool typ, .slice xfa xfs.length xfc, .slice xaa xal.length xac, .string name, .slice xca xcs.length xcc, .slice xta xts.length xtc, .string nrdn, .bool dold, .string nsup, .bool hsup, .string desc, .string val, .bool hval, .int .i64 aband, .slice xka xks.length xkc] 36) = W := ⟨_, rfl⟩
  obtain ⟨wB, hwB⟩ : ∃ W, wA.alloc (.cells #[.int .i64 0, .int .i64 0, .int .i64 0, .string ⟨#[]⟩, .string ⟨#[]⟩, .string ⟨#[]⟩, .slice none 0 0, .string ⟨#[]⟩, .bool false, .slice none 0 0] 42) = W := ⟨_, rfl⟩
  have na : wA.heap.size = w.heap.size + 1 := by rw [← hwA]; simp
  have p : Box wB w.heap.size 36 #[.int .i64 id, .int .i64 kind, .int .i64 ver, .string bn, .int .i64 meth, .string pass, .string mech, .string cred, .bool hasc, .string base, .int .i64 scope, .int .i64 deref, .int .i64 slim, .int .i64 tlim, .bool typ, .slice xfa xfs.length xfc, .slice xaa xal.length xac, .string name, .slice xca xcs.length xcc, .slice xta xts.length xtc, .string nrdn, .bool dold, .string nsup, .bool hsup, .string desc, .string val, .bool hval, .int .i64 aband, .slice xka xks.length xkc] := by rw [← hwB]; exact Box.past (by rw [← hwA]; exact Box.new _ _ _) _
  have q : Box wB (w.heap.size + 1) 42 #[.int .i64 0, .int .i64 0, .int .i64 0, .string ⟨#[]⟩, .string ⟨#[]⟩, .string ⟨#[]⟩, .slice none 0 0, .string ⟨#[]⟩, .bool false, .slice none 0 0] := by rw [← hwB, ← na]; exact Box.new _ _ _
  have hB : Below w.heap.size w wB := by
    rw [← hwB, ← hwA]
    exact ((Below.refl _ _).alloc (Nat.le_refl _) _).alloc (by simp) _
  have c1 : wB.cell? ⟨w.heap.size, 1, none⟩ = some (.int .i64 kind) := (p.cell 1 (by simp)).1
  have a1 : decide (kind < 0) = false := decide_eq_false (by omega)
  have a2 : decide (kind > 9) = true := decide_eq_true hk
  have a3 : decide (9 < kind) = true := decide_eq_true hk
  have a4 : ¬ kind < 0 := by omega
  have hV : Hid (outV ⟨id, kind, ver, bn, meth, pass, mech, cred, hasc, base, scope, deref, slim, tlim, typ, name, nrdn, dold, nsup, hsup, desc, val, hval, aband⟩ (xks.any Ctl.crit) = .tuple #[.agg #[.int .i64 0, .int .i64 0, .int .i64 0, .string ⟨#[]⟩, .string ⟨#[]⟩, .string ⟨#[]⟩, .slice none 0 0, .string ⟨#[]⟩, .bool false, .slice none 0 0], .bool false]) := by
    unfold Hid outV
    rw [if_neg (by intro e; have := of_decide_eq_true e; dsimp only at this; omega)]
    rfl
  have hB' : Hid (Below w.heap.size w wB) := hB
  have h1c : (#[.int .i64 0, .int .i64 0, .int .i64 0, .string ⟨#[]⟩, .string ⟨#[]⟩, .string ⟨#[]⟩, .slice none 0 0, .string ⟨#[]⟩, .bool false, .slice none 0 0] : Array Value).all (·.oneCell') = true := by simp [Value.oneCell']
  clear h hT
  go_enter Tryd.func4, Tryd.ntmps4
  go_upto_region 1 with fail
  clear hwA hwB na
  go_wp2_with (refine store_t info_rep rfl _ _ rfl (w.heap.size + 1) #[.int .i64 0, .int .i64 0, .int .i64 0, .string ⟨#[]⟩, .string ⟨#[]⟩, .string ⟨#[]⟩, .slice none 0 0, .string ⟨#[]⟩, .bool false, .slice none 0 0] rfl rfl q rfl rfl h1c ?_)
  exact bodyPost_ret (results_ct rfl _ _ _ _ _ rfl (ld_rep (box_row q) rfl)) rfl ⟨by rw [hV.out]; rfl, below_row hB'.out (by omega) _⟩
set_option maxRecDepth 100000 in
set_option maxHeartbeats 4000000 in
theorem rRef0 (id ver meth scope deref slim tlim aband : Int) (bn pass mech cred base name nrdn nsup desc val : ByteArray) (hasc typ dold hsup hval : Bool) (xfa xaa xca xta xka : Option Addr) (xfc xac xcc xtc xkc : Nat) (xfs : List Nod) (xal : List (List UInt8)) (xcs : List Chg) (xts : List Att) (xks : List Ctl) (w : World) (hn : xks.length ≤ 2932031007317) (h : GRow 4 oV w xka xks) (hT : KTab w) :
    Calls Tryd.prog 4 #[.agg #[.int .i64 id, .int .i64 0, .int .i64 ver, .string bn, .int .i64 meth, .string pass, .string mech, .string cred, .bool hasc, .string base, .int .i64 scope, .int .i64 deref, .int .i64 slim, .int .i64 tlim, .bool typ, .slice xfa xfs.length xfc, .slice xaa xal.length xac, .string name, .slice xca xcs.length xcc, .slice xta xts.length xtc, .string nrdn, .bool dold, .string nsup, .bool hsup, .string desc, .string val, .bool hval, .int .i64 aband, .slice xka xks.length xkc]] w fun e w' => e = .returned (outV ⟨id, 0, ver, bn, meth, pass, mech, cred, hasc, base, scope, deref, slim, tlim, typ, name, nrdn, dold, nsup, hsup, desc, val, hval, aband⟩ (xks.any Ctl.crit)) ∧ Below w.heap.size w w' := by
  obtain ⟨wA, hwA⟩ : ∃ W, w.alloc (.cells #[.int .i64 id, .int .i64 0, .int .i64 ver, .string bn, .int .i64 meth, .string pass, .string mech, .string cred, .bool hasc, .string base, .int .i64 scope, .int .i64 deref, .int .i64 slim, .int .i64 tlim, .bool typ, .slice xfa xfs.length xfc, .slice xaa xal.length xac, .string name, .slice xca xcs.length xcc, .slice xta xts.length xtc, .string nrdn, .bool dold, .string nsup, .bool hsup, .string desc, .string val, .bool hval, .int .i64 aband, .slice xka xks.length xkc] 36) = W := ⟨_, rfl⟩
  obtain ⟨wB, hwB⟩ : ∃ W, wA.alloc (.cells #[.int .i64 0, .int .i64 0, .int .i64 0, .string ⟨#[]⟩, .string ⟨#[]⟩, .string ⟨#[]⟩, .slice none 0 0, .string ⟨#[]⟩, .bool false, .slice none 0 0] 42) = W := ⟨_, rfl⟩
  have na : wA.heap.size = w.heap.size + 1 := by rw [← hwA]; simp
  have p : Box wB w.heap.size 36 #[.int .i64 id, .int .i64 0, .int .i64 ver, .string bn, .int .i64 meth, .string pass, .string mech, .string cred, .bool hasc, .string base, .int .i64 scope, .int .i64 deref, .int .i64 slim, .int .i64 tlim, .bool typ, .slice xfa xfs.length xfc, .slice xaa xal.length xac, .string name, .slice xca xcs.length xcc, .slice xta xts.length xtc, .string nrdn, .bool dold, .string nsup, .bool hsup, .string desc, .string val, .bool hval, .int .i64 aband, .slice xka xks.length xkc] := by rw [← hwB]; exact Box.past (by rw [← hwA]; exact Box.new _ _ _) _
  have q : Box wB (w.heap.size + 1) 42 #[.int .i64 0, .int .i64 0, .int .i64 0, .string ⟨#[]⟩, .string ⟨#[]⟩, .string ⟨#[]⟩, .slice none 0 0, .string ⟨#[]⟩, .bool false, .slice none 0 0] := by rw [← hwB, ← na]; exact Box.new _ _ _
  have hB : Below w.heap.size w wB := by
    rw [← hwB, ← hwA]
    exact ((Below.refl _ _).alloc (Nat.le_refl _) _).alloc (by simp) _
  have hrow : Hid (∀ code t, Calls Tryd.prog 11 #[.agg #[.int .i64 id, .int .i64 0, .int .i64 ver, .string bn, .int .i64 meth, .string pass, .string mech, .string cred, .bool hasc, .string base, .int .i64 scope, .int .i64 deref, .int .i64 slim, .int .i64 tlim, .bool typ, .slice xfa xfs.length xfc, .slice xaa xal.length xac, .string name, .slice xca xcs.length xcc, .slice xta xts.length xtc, .string nrdn, .bool dold, .string nsup, .bool hsup, .string desc, .string val, .bool hval, .int .i64 aband, .slice xka xks.length xkc], .int .i64 code, .string t] wB fun e w' => e = .returned (.tuple #[.agg #[.int .i64 id, .int .i64 0, .int .i64 code, .string ⟨#[]⟩, .string t, .string ⟨#[]⟩, .slice none 0 0, .string ⟨#[]⟩, .bool false, .slice none 0 0], .bool true]) ∧ Below wB.heap.size wB w') := fun code t => row_any 0 0 id ver meth scope deref slim tlim aband bn pass mech cred base name nrdn nsup desc val hasc typ dold hsup hval xfa xaa xca xta xka xfc xac xcc xtc xkc xfs xal xcs xts xks code t wB (by decide) (hT.below hB 0 (by decide))
  have t1 : wB.cell? ⟨0, 0, none⟩ = some (.int .i64 0) := hT.below hB 0 (by decide)
  have c1 : wB.cell? ⟨w.heap.size, 1, none⟩ = some (.int .i64 0) := (p.cell 1 (by simp)).1
  have c28 : wB.cell? ⟨w.heap.size, 28, none⟩ = some (.slice xka xks.length xkc) := (p.cell 28 (by simp)).1
  have h' : Hid (GRow 4 oV wB xka xks) := h.below oV_len hB
  have hB' : Hid (Below w.heap.size w wB) := hB
  have h1c : (#[.int .i64 id, .int .i64 0, .int .i64 12, .string ⟨#[]⟩, .string Tcr, .string ⟨#[]⟩, .slice none 0 0, .string ⟨#[]⟩, .bool false, .slice none 0 0] : Array Value).all (·.oneCell') = true := by simp [Value.oneCell']
  clear h hT
  go_enter Tryd.func4, Tryd.ntmps4
  go_upto_region 1 with fail
  clear hwA hwB na
  go_wp2_with fail
  go_loopw [4] (fun iv wr => ∃ i : Nat, i ≤ xks.length ∧ iv = .int .i64 (i : Int) ∧ Hid ((xks.take i).any Ctl.crit = false ∧ wr = wB)) (fun iv _ => xks.length - (intOf iv).toNat)
  case atStart => exact ⟨0, Nat.zero_le _, rfl, rfl, rfl⟩
  case round =>
    obtain ⟨i, hi, rfl, hI⟩ := hrel
    have hw' := hI.out.2
    subst hw'
    have hI' : Hid ((xks.take i).any Ctl.crit = false) := hI.out.1
    clear hI t1
    by_cases hlt : i < xks.length
    · obtain ⟨b, off, rfl, h0⟩ := h'.out i hlt
      have i0 : (0 : Int) ≤ (i : Int) := Int.natCast_nonneg _
      have i1 : (i : Int) < (xks.length : Int) := Int.ofNat_lt.2 hlt
      have htk : Hid ((xks.take (i + 1)).any Ctl.crit = ((xks.take i).any Ctl.crit || xks[i].crit)) := by
        unfold Hid
        rw [List.take_succ_eq_append_getElem hlt, List.any_append]
        simp
      have hall : Hid (xks[i].crit = true → xks.any Ctl.crit = true) := fun hq => List.any_eq_true.2 ⟨_, List.getElem_mem hlt, hq⟩
      obtain ⟨⟨xo, xc, xv, xh⟩, hx⟩ : ∃ x, xks[i] = x := ⟨_, rfl⟩
      rw [hx] at h0 htk hall
      have d1 : wr.cell? ⟨b, off + i * 4 + 1, none⟩ = some (.bool xc) := h0 1 (by omega)
      have hlt' : Hid (i < xks.length) := hlt
      dsimp only at htk hall
      clear hx hlt h0
      cases xc with
      | false =>
        go_wp2_with fail
        go_roundw
        case rel => exact ⟨i + 1, hlt'.out, by simp, by unfold Hid; rw [htk.out, hI'.out]; exact ⟨rfl, trivial⟩⟩
        case measure => have := hlt'.out; simp [intOf]; omega
      | true =>
        have hc : Hid (xks.any Ctl.crit = true) := hall.out rfl
        go_wp2_with (first | (refine load_req rfl _ rfl w.heap.size rfl p rfl ?_) | (go_at_call 11; refine (hrow.out _ _).mono ?_; rintro e w1 ⟨rfl, hb1⟩; have q1 := q.below hb1) | (refine store_t info_rep rfl _ _ rfl (w.heap.size + 1) #[.int .i64 id, .int .i64 0, .int .i64 12, .string ⟨#[]⟩, .string Tcr, .string ⟨#[]⟩, .slice none 0 0, .string ⟨#[]⟩, .bool false, .slice none 0 0] rfl rfl q1 rfl rfl h1c ?_))
        exact bodyPost_ret (results_ct rfl _ _ _ _ _ rfl (ld_rep (box_row q1) rfl)) rfl ⟨by rw [hc.out]; rfl, below_row (hB'.out.trans (hb1.mono hB'.out.size)) (by omega) _⟩
    · have hie : i = xks.length := by omega
      subst hie
      have hc : Hid (xks.any Ctl.crit = false) := by have := hI'.out; rw [List.take_length] at this; exact this
      have k1 : ¬ (xks.length : Int) < (xks.length : Int) := by omega
      clear hI' h1c
      have c2 : wr.cell? ⟨w.heap.size, 2, none⟩ = some (.int .i64 ver) := (p.cell 2 (by simp)).1
      have c3 : wr.cell? ⟨w.heap.size, 3, none⟩ = some (.string bn) := (p.cell 3 (by simp)).1
      have c4 : wr.cell? ⟨w.heap.size, 4, none⟩ = some (.int .i64 meth) := (p.cell 4 (by simp)).1
      have c5 : wr.cell? ⟨w.heap.size, 5, none⟩ = some (.string pass) := (p.cell 5 (by simp)).1
      by_cases e1 : ver = 3
      · have f1 : (ver != 3) = false := by simp [e1]
        by_cases e2 : meth = 0
        · have f2 : (meth != 0) = false := by simp [e2]
          by_cases e3 : pass.toList = []
          · have f3 : (pass.toList == []) = true := by simp [e3]
            by_cases e4 : bn.toList = []
            · have f4 : (bn.toList == []) = true := by simp [e4]
              have hE : Hid (bindR ver bn meth pass = (0, ⟨#[]⟩)) := by unfold Hid bindR; simp_all
              clear e1 e2 e3 e4
              have h1c : (#[.int .i64 id, .int .i64 0, .int .i64 0, .string ⟨#[]⟩, .string ⟨#[]⟩, .string ⟨#[]⟩, .slice none 0 0, .string ⟨#[]⟩, .bool false, .slice none 0 0] : Array Value).all (·.oneCell') = true := by simp [Value.oneCell']
              go_wp2_with (first | (refine load_req rfl _ rfl w.heap.size rfl p rfl ?_) | (go_at_call 11; refine (hrow.out _ _).mono ?_; rintro e w1 ⟨rfl, hb1⟩; have q1 := q.below hb1) | (refine store_t info_rep rfl _ _ rfl (w.heap.size + 1) #[.int .i64 id, .int .i64 0, .int .i64 0, .string ⟨#[]⟩, .string ⟨#[]⟩, .string ⟨#[]⟩, .slice none 0 0, .string ⟨#[]⟩, .bool false, .slice none 0 0] rfl rfl q1 rfl rfl h1c ?_))
              exact bodyPost_ret (results_ct rfl _ _ _ _ _ rfl (ld_rep (box_row q1) rfl)) rfl ⟨by rw [hc.out]; show Ending.returned _ = Ending.returned (outW _ (some (bindR ver bn meth pass))); rw [hE.out]; rfl, below_row (hB'.out.trans (hb1.mono hB'.out.size)) (by omega) _⟩
            · have f4 : (bn.toList == []) = false := by simp [e4]
              have hE : Hid (bindR ver bn meth pass = (53, Tnw)) := by unfold Hid bindR; simp_all
              clear e1 e2 e3 e4
              have h1c : (#[.int .i64 id, .int .i64 0, .int .i64 53, .string ⟨#[]⟩, .string Tnw, .string ⟨#[]⟩, .slice none 0 0, .string ⟨#[]⟩, .bool false, .slice none 0 0] : Array Value).all (·.oneCell') = true := by simp [Value.oneCell']
              go_wp2_with (first | (refine load_req rfl _ rfl w.heap.size rfl p rfl ?_) | (go_at_call 11; refine (hrow.out _ _).mono ?_; rintro e w1 ⟨rfl, hb1⟩; have q1 := q.below hb1) | (refine store_t info_rep rfl _ _ rfl (w.heap.size + 1) #[.int .i64 id, .int .i64 0, .int .i64 53, .string ⟨#[]⟩, .string Tnw, .string ⟨#[]⟩, .slice none 0 0, .string ⟨#[]⟩, .bool false, .slice none 0 0] rfl rfl q1 rfl rfl h1c ?_))
              exact bodyPost_ret (results_ct rfl _ _ _ _ _ rfl (ld_rep (box_row q1) rfl)) rfl ⟨by rw [hc.out]; show Ending.returned _ = Ending.returned (outW _ (some (bindR ver bn meth pass))); rw [hE.out]; rfl, below_row (hB'.out.trans (hb1.mono hB'.out.size)) (by omega) _⟩
          · have f3 : (pass.toList == []) = false := by simp [e3]
            have hE : Hid (bindR ver bn meth pass = (49, Tao)) := by unfold Hid bindR; simp_all
            clear e1 e2 e3
            have h1c : (#[.int .i64 id, .int .i64 0, .int .i64 49, .string ⟨#[]⟩, .string Tao, .string ⟨#[]⟩, .slice none 0 0, .string ⟨#[]⟩, .bool false, .slice none 0 0] : Array Value).all (·.oneCell') = true := by simp [Value.oneCell']
            go_wp2_with (first | (refine load_req rfl _ rfl w.heap.size rfl p rfl ?_) | (go_at_call 11; refine (hrow.out _ _).mono ?_; rintro e w1 ⟨rfl, hb1⟩; have q1 := q.below hb1) | (refine store_t info_rep rfl _ _ rfl (w.heap.size + 1) #[.int .i64 id, .int .i64 0, .int .i64 49, .string ⟨#[]⟩, .string Tao, .string ⟨#[]⟩, .slice none 0 0, .string ⟨#[]⟩, .bool false, .slice none 0 0] rfl rfl q1 rfl rfl h1c ?_))
            exact bodyPost_ret (results_ct rfl _ _ _ _ _ rfl (ld_rep (box_row q1) rfl)) rfl ⟨by rw [hc.out]; show Ending.returned _ = Ending.returned (outW _ (some (bindR ver bn meth pass))); rw [hE.out]; rfl, below_row (hB'.out.trans (hb1.mono hB'.out.size)) (by omega) _⟩
        · have f2 : (meth != 0) = true := by simp [e2]
          have hE : Hid (bindR ver bn meth pass = (7, Tso)) := by unfold Hid bindR; simp_all
          clear e1 e2
          have h1c : (#[.int .i64 id, .int .i64 0, .int .i64 7, .string ⟨#[]⟩, .string Tso, .string ⟨#[]⟩, .slice none 0 0, .string ⟨#[]⟩, .bool false, .slice none 0 0] : Array Value).all (·.oneCell') = true := by simp [Value.oneCell']
          go_wp2_with (first | (refine load_req rfl _ rfl w.heap.size rfl p rfl ?_) | (go_at_call 11; refine (hrow.out _ _).mono ?_; rintro e w1 ⟨rfl, hb1⟩; have q1 := q.below hb1) | (refine store_t info_rep rfl _ _ rfl (w.heap.size + 1) #[.int .i64 id, .int .i64 0, .int .i64 7, .string ⟨#[]⟩, .string Tso, .string ⟨#[]⟩, .slice none 0 0, .string ⟨#[]⟩, .bool false, .slice none 0 0] rfl rfl q1 rfl rfl h1c ?_))
          exact bodyPost_ret (results_ct rfl _ _ _ _ _ rfl (ld_rep (box_row q1) rfl)) rfl ⟨by rw [hc.out]; show Ending.returned _ = Ending.returned (outW _ (some (bindR ver bn meth pass))); rw [hE.out]; rfl, below_row (hB'.out.trans (hb1.mono hB'.out.size)) (by omega) _⟩
      · have f1 : (ver != 3) = true := by simp [e1]
        have hE : Hid (bindR ver bn meth pass = (2, Tv3)) := by unfold Hid bindR; simp_all
        clear e1
        have h1c : (#[.int .i64 id, .int .i64 0, .int .i64 2, .string ⟨#[]⟩, .string Tv3, .string ⟨#[]⟩, .slice none 0 0, .string ⟨#[]⟩, .bool false, .slice none 0 0] : Array Value).all (·.oneCell') = true := by simp [Value.oneCell']
        go_wp2_with (first | (refine load_req rfl _ rfl w.heap.size rfl p rfl ?_) | (go_at_call 11; refine (hrow.out _ _).mono ?_; rintro e w1 ⟨rfl, hb1⟩; have q1 := q.below hb1) | (refine store_t info_rep rfl _ _ rfl (w.heap.size + 1) #[.int .i64 id, .int .i64 0, .int .i64 2, .string ⟨#[]⟩, .string Tv3, .string ⟨#[]⟩, .slice none 0 0, .string ⟨#[]⟩, .bool false, .slice none 0 0] rfl rfl q1 rfl rfl h1c ?_))
        exact bodyPost_ret (results_ct rfl _ _ _ _ _ rfl (ld_rep (box_row q1) rfl)) rfl ⟨by rw [hc.out]; show Ending.returned _ = Ending.returned (outW _ (some (bindR ver bn meth pass))); rw [hE.out]; rfl, below_row (hB'.out.trans (hb1.mono hB'.out.size)) (by omega) _⟩
set_option maxRecDepth 100000 in
set_option maxHeartbeats 4000000 in
theorem rRef2 (id ver meth scope deref slim tlim aband : Int) (bn pass mech cred base name nrdn nsup desc val : ByteArray) (hasc typ dold hsup hval : Bool) (xfa xaa xca xta xka : Option Addr) (xfc xac xcc xtc xkc : Nat) (xfs : List Nod) (xal : List (List UInt8)) (xcs : List Chg) (xts : List Att) (xks : List Ctl) (w : World) (hn : xks.length ≤ 2932031007317) (h : GRow 4 oV w xka xks) (hT : KTab w) :
    Calls Tryd.prog 4 #[.agg #[.int .i64 id, .int .i64 2, .int .i64 ver, .string bn, .int .i64 meth, .string pass, .string mech, .string cred, .bool hasc, .string base, .int .i64 scope, .int .i64 deref, .int .i64 slim, .int .i64 tlim, .bool typ, .slice xfa xfs.length xfc, .slice xaa xal.length xac, .string name, .slice xca xcs.length xcc, .slice xta xts.length xtc, .string nrdn, .bool dold, .string nsup, .bool hsup, .string desc, .string val, .bool hval, .int .i64 aband, .slice xka xks.length xkc]] w fun e w' => e = .returned (outV ⟨id, 2, ver, bn, meth, pass, mech, cred, hasc, base, scope, deref, slim, tlim, typ, name, nrdn, dold, nsup, hsup, desc, val, hval, aband⟩ (xks.any Ctl.crit)) ∧ Below w.heap.size w w' := by
  obtain ⟨wA, hwA⟩ : ∃ W, w.alloc (.cells #[.int .i64 id, .int .i64 2, .int .i64 ver, .string bn, .int .i64 meth, .string pass, .string mech, .string cred, .bool hasc, .string base, .int .i64 scope, .int .i64 deref, .int .i64 slim, .int .i64 tlim, .bool typ, .slice xfa xfs.length xfc, .slice xaa xal.length xac, .string name, .slice xca xcs.length xcc, .slice xta xts.length xtc, .string nrdn, .bool dold, .string nsup, .bool hsup, .string desc, .string val, .bool hval, .int .i64 aband, .slice xka xks.length xkc] 36) = W := ⟨_, rfl⟩
  obtain ⟨wB, hwB⟩ : ∃ W, wA.alloc (.cells #[.int .i64 0, .int .i64 0, .int .i64 0, .string ⟨#[]⟩, .string ⟨#[]⟩, .string ⟨#[]⟩, .slice none 0 0, .string ⟨#[]⟩, .bool false, .slice none 0 0] 42) = W := ⟨_, rfl⟩
  have na : wA.heap.size = w.heap.size + 1 := by rw [← hwA]; simp
  have p : Box wB w.heap.size 36 #[.int .i64 id, .int .i64 2, .int .i64 ver, .string bn, .int .i64 meth, .string pass, .string mech, .string cred, .bool hasc, .string base, .int .i64 scope, .int .i64 deref, .int .i64 slim, .int .i64 tlim, .bool typ, .slice xfa xfs.length xfc, .slice xaa xal.length xac, .string name, .slice xca xcs.length xcc, .slice xta xts.length xtc, .string nrdn, .bool dold, .string nsup, .bool hsup, .string desc, .string val, .bool hval, .int .i64 aband, .slice xka xks.length xkc] := by rw [← hwB]; exact Box.past (by rw [← hwA]; exact Box.new _ _ _) _
  have q : Box wB (w.heap.size + 1) 42 #[.int .i64 0, .int .i64 0, .int .i64 0, .string ⟨#[]⟩, .string ⟨#[]⟩, .string ⟨#[]⟩, .slice none 0 0, .string ⟨#[]⟩, .bool false, .slice none 0 0] := by rw [← hwB, ← na]; exact Box.new _ _ _
  have hB : Below w.heap.size w wB := by
    rw [← hwB, ← hwA]
    exact ((Below.refl _ _).alloc (Nat.le_refl _) _).alloc (by simp) _
  have hrow : Hid (∀ code t, Calls Tryd.prog 11 #[.agg #[.int .i64 id, .int .i64 2, .int .i64 ver, .string bn, .int .i64 meth, .string pass, .string mech, .string cred, .bool hasc, .string base, .int .i64 scope, .int .i64 deref, .int .i64 slim, .int .i64 tlim, .bool typ, .slice xfa xfs.length xfc, .slice xaa xal.length xac, .string name, .slice xca xcs.length xcc, .slice xta xts.length xtc, .string nrdn, .bool dold, .string nsup, .bool hsup, .string desc, .string val, .bool hval, .int .i64 aband, .slice xka xks.length xkc], .int .i64 code, .string t] wB fun e w' => e = .returned (.tuple #[.agg #[.int .i64 id, .int .i64 2, .int .i64 code, .string ⟨#[]⟩, .string t, .string ⟨#[]⟩, .slice none 0 0, .string ⟨#[]⟩, .bool false, .slice none 0 0], .bool true]) ∧ Below wB.heap.size wB w') := fun code t => row_any 2 2 id ver meth scope deref slim tlim aband bn pass mech cred base name nrdn nsup desc val hasc typ dold hsup hval xfa xaa xca xta xka xfc xac xcc xtc xkc xfs xal xcs xts xks code t wB (by decide) (hT.below hB 2 (by decide))
  have t1 : wB.cell? ⟨0, 2, none⟩ = some (.int .i64 2) := hT.below hB 2 (by decide)
  have c1 : wB.cell? ⟨w.heap.size, 1, none⟩ = some (.int .i64 2) := (p.cell 1 (by simp)).1
  have c28 : wB.cell? ⟨w.heap.size, 28, none⟩ = some (.slice xka xks.length xkc) := (p.cell 28 (by simp)).1
  have h' : Hid (GRow 4 oV wB xka xks) := h.below oV_len hB
  have hB' : Hid (Below w.heap.size w wB) := hB
  have h1c : (#[.int .i64 id, .int .i64 2, .int .i64 12, .string ⟨#[]⟩, .string Tcr, .string ⟨#[]⟩, .slice none 0 0, .string ⟨#[]⟩, .bool false, .slice none 0 0] : Array Value).all (·.oneCell') = true := by simp [Value.oneCell']
  clear h hT
  go_enter Tryd.func4, Tryd.ntmps4
  go_upto_region 1 with fail
  clear hwA hwB na
  go_wp2_with fail
  go_loopw [4] (fun iv wr => ∃ i : Nat, i ≤ xks.length ∧ iv = .int .i64 (i : Int) ∧ Hid ((xks.take i).any Ctl.crit = false ∧ wr = wB)) (fun iv _ => xks.length - (intOf iv).toNat)
  case atStart => exact ⟨0, Nat.zero_le _, rfl, rfl, rfl⟩
  case round =>
    obtain ⟨i, hi, rfl, hI⟩ := hrel
    have hw' := hI.out.2
    subst hw'
    have hI' : Hid ((xks.take i).any Ctl.crit = false) := hI.out.1
    clear hI t1
    by_cases hlt : i < xks.length
    · obtain ⟨b, off, rfl, h0⟩ := h'.out i hlt
      have i0 : (0 : Int) ≤ (i : Int) := Int.natCast_nonneg _
      have i1 : (i : Int) < (xks.length : Int) := Int.ofNat_lt.2 hlt
      have htk : Hid ((xks.take (i + 1)).any Ctl.crit = ((xks.take i).any Ctl.crit || xks[i].crit)) := by
        unfold Hid
        rw [List.take_succ_eq_append_getElem hlt, List.any_append]
        simp
      have hall : Hid (xks[i].crit = true → xks.any Ctl.crit = true) := fun hq => List.any_eq_true.2 ⟨_, List.getElem_mem hlt, hq⟩
      obtain ⟨⟨xo, xc, xv, xh⟩, hx⟩ : ∃ x, xks[i] = x := ⟨_, rfl⟩
      rw [hx] at h0 htk hall
      have d1 : wr.cell? ⟨b, off + i * 4 + 1, none⟩ = some (.bool xc) := h0 1 (by omega)
      have hlt' : Hid (i < xks.length) := hlt
      dsimp only at htk hall
      clear hx hlt h0
      cases xc with
      | false =>
        go_wp2_with fail
        go_roundw
        case rel => exact ⟨i + 1, hlt'.out, by simp, by unfold Hid; rw [htk.out, hI'.out]; exact ⟨rfl, trivial⟩⟩
        case measure => have := hlt'.out; simp [intOf]; omega
      | true =>
        have hc : Hid (xks.any Ctl.crit = true) := hall.out rfl
        go_wp2_with (first | (refine load_req rfl _ rfl w.heap.size rfl p rfl ?_) | (go_at_call 11; refine (hrow.out _ _).mono ?_; rintro e w1 ⟨rfl, hb1⟩; have q1 := q.below hb1) | (refine store_t info_rep rfl _ _ rfl (w.heap.size + 1) #[.int .i64 id, .int .i64 2, .int .i64 12, .string ⟨#[]⟩, .string Tcr, .string ⟨#[]⟩, .slice none 0 0, .string ⟨#[]⟩, .bool false, .slice none 0 0] rfl rfl q1 rfl rfl h1c ?_))
        exact bodyPost_ret (results_ct rfl _ _ _ _ _ rfl (ld_rep (box_row q1) rfl)) rfl ⟨by rw [hc.out]; rfl, below_row (hB'.out.trans (hb1.mono hB'.out.size)) (by omega) _⟩
    · have hie : i = xks.length := by omega
      subst hie
      have hc : Hid (xks.any Ctl.crit = false) := by have := hI'.out; rw [List.take_length] at this; exact this
      have k1 : ¬ (xks.length : Int) < (xks.length : Int) := by omega
      clear hI' h1c
      have h1c : (#[.int .i64 0, .int .i64 0, .int .i64 0, .string ⟨#[]⟩, .string ⟨#[]⟩, .string ⟨#[]⟩, .slice none 0 0, .string ⟨#[]⟩, .bool false, .slice none 0 0] : Array Value).all (·.oneCell') = true := by simp [Value.oneCell']
      go_wp2_with (refine store_t info_rep rfl _ _ rfl (w.heap.size + 1) #[.int .i64 0, .int .i64 0, .int .i64 0, .string ⟨#[]⟩, .string ⟨#[]⟩, .string ⟨#[]⟩, .slice none 0 0, .string ⟨#[]⟩, .bool false, .slice none 0 0] rfl rfl q rfl rfl h1c ?_)
      exact bodyPost_ret (results_ct rfl _ _ _ _ _ rfl (ld_rep (box_row q) rfl)) rfl ⟨by rw [hc.out]; rfl, below_row (hB'.out) (by omega) _⟩
set_option maxRecDepth 100000 in
set_option maxHeartbeats 4000000 in
theorem rRef3 (id ver meth scope deref slim tlim aband : Int) (bn pass mech cred base name nrdn nsup desc val : ByteArray) (hasc typ dold hsup hval : Bool) (xfa xaa xca xta xka : Option Addr) (xfc xac xcc xtc xkc : Nat) (xfs : List Nod) (xal : List (List UInt8)) (xcs : List Chg) (xts : List Att) (xks : List Ctl) (w : World) (hn : xks.length ≤ 2932031007317) (h : GRow 4 oV w xka xks) (hT : KTab w) :
    Calls Tryd.prog 4 #[.agg #[.int .i64 id, .int .i64 3, .int .i64 ver, .string bn, .int .i64 meth, .string pass, .string mech, .string cred, .bool hasc, .string base, .int .i64 scope, .int .i64 deref, .int .i64 slim, .int .i64 tlim, .bool typ, .slice xfa xfs.length xfc, .slice xaa xal.length xac, .string name, .slice xca xcs.length xcc, .slice xta xts.length xtc, .string nrdn, .bool dold, .string nsup, .bool hsup, .string desc, .string val, .bool hval, .int .i64 aband, .slice xka xks.length xkc]] w fun e w' => e = .returned (outV ⟨id, 3, ver, bn, meth, pass, mech, cred, hasc, base, scope, deref, slim, tlim, typ, name, nrdn, dold, nsup, hsup, desc, val, hval, aband⟩ (xks.any Ctl.crit)) ∧ Below w.heap.size w w' := by
  obtain ⟨wA, hwA⟩ : ∃ W, w.alloc (.cells #[.int .i64 id, .int .i64 3, .int .i64 ver, .string bn, .int .i64 meth, .string pass, .string mech, .string cred, .bool hasc, .string base, .int .i64 scope, .int .i64 deref, .int .i64 slim, .int .i64 tlim, .bool typ, .slice xfa xfs.length xfc, .slice xaa xal.length xac, .string name, .slice xca xcs.length xcc, .slice xta xts.length xtc, .string nrdn, .bool dold, .string nsup, .bool hsup, .string desc, .string val, .bool hval, .int .i64 aband, .slice xka xks.length xkc] 36) = W := ⟨_, rfl⟩
  obtain ⟨wB, hwB⟩ : ∃ W, wA.alloc (.cells #[.int .i64 0, .int .i64 0, .int .i64 0, .string ⟨#[]⟩, .string ⟨#[]⟩, .string ⟨#[]⟩, .slice none 0 0, .string ⟨#[]⟩, .bool false, .slice none 0 0] 42) = W := ⟨_, rfl⟩
  have na : wA.heap.size = w.heap.size + 1 := by rw [← hwA]; simp
  have p : Box wB w.heap.size 36 #[.int .i64 id, .int .i64 3, .int .i64 ver, .string bn, .int .i64 meth, .string pass, .string mech, .string cred, .bool hasc, .string base, .int .i64 scope, .int .i64 deref, .int .i64 slim, .int .i64 tlim, .bool typ, .slice xfa xfs.length xfc, .slice xaa xal.length xac, .string name, .slice xca xcs.length xcc, .slice xta xts.length xtc, .string nrdn, .bool dold, .string nsup, .bool hsup, .string desc, .string val, .bool hval, .int .i64 aband, .slice xka xks.length xkc] := by rw [← hwB]; exact Box.past (by rw [← hwA]; exact Box.new _ _ _) _
  have q : Box wB (w.heap.size + 1) 42 #[.int .i64 0, .int .i64 0, .int .i64 0, .string ⟨#[]⟩, .string ⟨#[]⟩, .string ⟨#[]⟩, .slice none 0 0, .string ⟨#[]⟩, .bool false, .slice none 0 0] := by rw [← hwB, ← na]; exact Box.new _ _ _
  have hB : Below w.heap.size w wB := by
    rw [← hwB, ← hwA]
    exact ((Below.refl _ _).alloc (Nat.le_refl _) _).alloc (by simp) _
  have hrow : Hid (∀ code t, Calls Tryd.prog 11 #[.agg #[.int .i64 id, .int .i64 3, .int .i64 ver, .string bn, .int .i64 meth, .string pass, .string mech, .string cred, .bool hasc, .string base, .int .i64 scope, .int .i64 deref, .int .i64 slim, .int .i64 tlim, .bool typ, .slice xfa xfs.length xfc, .slice xaa xal.length xac, .string name, .slice xca xcs.length xcc, .slice xta xts.length xtc, .string nrdn, .bool dold, .string nsup, .bool hsup, .string desc, .string val, .bool hval, .int .i64 aband, .slice xka xks.length xkc], .int .i64 code, .string t] wB fun e w' => e = .returned (.tuple #[.agg #[.int .i64 id, .int .i64 3, .int .i64 code, .string ⟨#[]⟩, .string t, .string ⟨#[]⟩, .slice none 0 0, .string ⟨#[]⟩, .bool false, .slice none 0 0], .bool true]) ∧ Below wB.heap.size wB w') := fun code t => row_any 3 3 id ver meth scope deref slim tlim aband bn pass mech cred base name nrdn nsup desc val hasc typ dold hsup hval xfa xaa xca xta xka xfc xac xcc xtc xkc xfs xal xcs xts xks code t wB (by decide) (hT.below hB 3 (by decide))
  have t1 : wB.cell? ⟨0, 3, none⟩ = some (.int .i64 3) := hT.below hB 3 (by decide)
  have c1 : wB.cell? ⟨w.heap.size, 1, none⟩ = some (.int .i64 3) := (p.cell 1 (by simp)).1
  have c28 : wB.cell? ⟨w.heap.size, 28, none⟩ = some (.slice xka xks.length xkc) := (p.cell 28 (by simp)).1
  have h' : Hid (GRow 4 oV wB xka xks) := h.below oV_len hB
  have hB' : Hid (Below w.heap.size w wB) := hB
  have h1c : (#[.int .i64 id, .int .i64 3, .int .i64 12, .string ⟨#[]⟩, .string Tcr, .string ⟨#[]⟩, .slice none 0 0, .string ⟨#[]⟩, .bool false, .slice none 0 0] : Array Value).all (·.oneCell') = true := by simp [Value.oneCell']
  clear h hT
  go_enter Tryd.func4, Tryd.ntmps4
  go_upto_region 1 with fail
  clear hwA hwB na
  go_wp2_with fail
  go_loopw [4] (fun iv wr => ∃ i : Nat, i ≤ xks.length ∧ iv = .int .i64 (i : Int) ∧ Hid ((xks.take i).any Ctl.crit = false ∧ wr = wB)) (fun iv _ => xks.length - (intOf iv).toNat)
  case atStart => exact ⟨0, Nat.zero_le _, rfl, rfl, rfl⟩
  case round =>
    obtain ⟨i, hi, rfl, hI⟩ := hrel
    have hw' := hI.out.2
    subst hw'
    have hI' : Hid ((xks.take i).any Ctl.crit = false) := hI.out.1
    clear hI t1
    by_cases hlt : i < xks.length
    · obtain ⟨b, off, rfl, h0⟩ := h'.out i hlt
      have i0 : (0 : Int) ≤ (i : Int) := Int.natCast_nonneg _
      have i1 : (i : Int) < (xks.length : Int) := Int.ofNat_lt.2 hlt
      have htk : Hid ((xks.take (i + 1)).any Ctl.crit = ((xks.take i).any Ctl.crit || xks[i].crit)) := by
        unfold Hid
        rw [List.take_succ_eq_append_getElem hlt, List.any_append]
        simp
      have hall : Hid (xks[i].crit = true → xks.any Ctl.crit = true) := fun hq => List.any_eq_true.2 ⟨_, List.getElem_mem hlt, hq⟩
      obtain ⟨⟨xo, xc, xv, xh⟩, hx⟩ : ∃ x, xks[i] = x := ⟨_, rfl⟩
      rw [hx] at h0 htk hall
      have d1 : wr.cell? ⟨b, off + i * 4 + 1, none⟩ = some (.bool xc) := h0 1 (by omega)
      have hlt' : Hid (i < xks.length) := hlt
      dsimp only at htk hall
      clear hx hlt h0
      cases xc with
      | false =>
        go_wp2_with fail
        go_roundw
        case rel => exact ⟨i + 1, hlt'.out, by simp, by unfold Hid; rw [htk.out, hI'.out]; exact ⟨rfl, trivial⟩⟩
        case measure => have := hlt'.out; simp [intOf]; omega
      | true =>
        have hc : Hid (xks.any Ctl.crit = true) := hall.out rfl
        go_wp2_with (first | (refine load_req rfl _ rfl w.heap.size rfl p rfl ?_) | (go_at_call 11; refine (hrow.out _ _).mono ?_; rintro e w1 ⟨rfl, hb1⟩; have q1 := q.below hb1) | (refine store_t info_rep rfl _ _ rfl (w.heap.size + 1) #[.int .i64 id, .int .i64 3, .int .i64 12, .string ⟨#[]⟩, .string Tcr, .string ⟨#[]⟩, .slice none 0 0, .string ⟨#[]⟩, .bool false, .slice none 0 0] rfl rfl q1 rfl rfl h1c ?_))
        exact bodyPost_ret (results_ct rfl _ _ _ _ _ rfl (ld_rep (box_row q1) rfl)) rfl ⟨by rw [hc.out]; rfl, below_row (hB'.out.trans (hb1.mono hB'.out.size)) (by omega) _⟩
    · have hie : i = xks.length := by omega
      subst hie
      have hc : Hid (xks.any Ctl.crit = false) := by have := hI'.out; rw [List.take_length] at this; exact this
      have k1 : ¬ (xks.length : Int) < (xks.length : Int) := by omega
      clear hI' h1c
      have h1c : (#[.int .i64 id, .int .i64 3, .int .i64 53, .string ⟨#[]⟩, .string Tro, .string ⟨#[]⟩, .slice none 0 0, .string ⟨#[]⟩, .bool false, .slice none 0 0] : Array Value).all (·.oneCell') = true := by simp [Value.oneCell']
      go_wp2_with (first | (refine load_req rfl _ rfl w.heap.size rfl p rfl ?_) | (go_at_call 11; refine (hrow.out _ _).mono ?_; rintro e w1 ⟨rfl, hb1⟩; have q1 := q.below hb1) | (refine store_t info_rep rfl _ _ rfl (w.heap.size + 1) #[.int .i64 id, .int .i64 3, .int .i64 53, .string ⟨#[]⟩, .string Tro, .string ⟨#[]⟩, .slice none 0 0, .string ⟨#[]⟩, .bool false, .slice none 0 0] rfl rfl q1 rfl rfl h1c ?_))
      exact bodyPost_ret (results_ct rfl _ _ _ _ _ rfl (ld_rep (box_row q1) rfl)) rfl ⟨by rw [hc.out]; rfl, below_row (hB'.out.trans (hb1.mono hB'.out.size)) (by omega) _⟩
set_option maxRecDepth 100000 in
set_option maxHeartbeats 4000000 in
theorem rRef4 (id ver meth scope deref slim tlim aband : Int) (bn pass mech cred base name nrdn nsup desc val : ByteArray) (hasc typ dold hsup hval : Bool) (xfa xaa xca xta xka : Option Addr) (xfc xac xcc xtc xkc : Nat) (xfs : List Nod) (xal : List (List UInt8)) (xcs : List Chg) (xts : List Att) (xks : List Ctl) (w : World) (hn : xks.length ≤ 2932031007317) (h : GRow 4 oV w xka xks) (hT : KTab w) :
    Calls Tryd.prog 4 #[.agg #[.int .i64 id, .int .i64 4, .int .i64 ver, .string bn, .int .i64 meth, .string pass, .string mech, .string cred, .bool hasc, .string base, .int .i64 scope, .int .i64 deref, .int .i64 slim, .int .i64 tlim, .bool typ, .slice xfa xfs.length xfc, .slice xaa xal.length xac, .string name, .slice xca xcs.length xcc, .slice xta xts.length xtc, .string nrdn, .bool dold, .string nsup, .bool hsup, .string desc, .string val, .bool hval, .int .i64 aband, .slice xka xks.length xkc]] w fun e w' => e = .returned (outV ⟨id, 4, ver, bn, meth, pass, mech, cred, hasc, base, scope, deref, slim, tlim, typ, name, nrdn, dold, nsup, hsup, desc, val, hval, aband⟩ (xks.any Ctl.crit)) ∧ Below w.heap.size w w' := by
  obtain ⟨wA, hwA⟩ : ∃ W, w.alloc (.cells #[.int .i64 id, .int .i64 4, .int .i64 ver, .string bn, .int .i64 meth, .string pass, .string mech, .string cred, .bool hasc, .string base, .int .i64 scope, .int .i64 deref, .int .i64 slim, .int .i64 tlim, .bool typ, .slice xfa xfs.length xfc, .slice xaa xal.length xac, .string name, .slice xca xcs.length xcc, .slice xta xts.length xtc, .string nrdn, .bool dold, .string nsup, .bool hsup, .string desc, .string val, .bool hval, .int .i64 aband, .slice xka xks.length xkc] 36) = W := ⟨_, rfl⟩
  obtain ⟨wB, hwB⟩ : ∃ W, wA.alloc (.cells #[.int .i64 0, .int .i64 0, .int .i64 0, .string ⟨#[]⟩, .string ⟨#[]⟩, .string ⟨#[]⟩, .slice none 0 0, .string ⟨#[]⟩, .bool false, .slice none 0 0] 42) = W := ⟨_, rfl⟩
  have na : wA.heap.size = w.heap.size + 1 := by rw [← hwA]; simp
  have p : Box wB w.heap.size 36 #[.int .i64 id, .int .i64 4, .int .i64 ver, .string bn, .int .i64 meth, .string pass, .string mech, .string cred, .bool hasc, .string base, .int .i64 scope, .int .i64 deref, .int .i64 slim, .int .i64 tlim, .bool typ, .slice xfa xfs.length xfc, .slice xaa xal.length xac, .string name, .slice xca xcs.length xcc, .slice xta xts.length xtc, .string nrdn, .bool dold, .string nsup, .bool hsup, .string desc, .string val, .bool hval, .int .i64 aband, .slice xka xks.length xkc] := by rw [← hwB]; exact Box.past (by rw [← hwA]; exact Box.new _ _ _) _
  have q : Box wB (w.heap.size + 1) 42 #[.int .i64 0, .int .i64 0, .int .i64 0, .string ⟨#[]⟩, .string ⟨#[]⟩, .string ⟨#[]⟩, .slice none 0 0, .string ⟨#[]⟩, .bool false, .slice none 0 0] := by rw [← hwB, ← na]; exact Box.new _ _ _
  have hB : Below w.heap.size w wB := by
    rw [← hwB, ← hwA]
    exact ((Below.refl _ _).alloc (Nat.le_refl _) _).alloc (by simp) _
  have hrow : Hid (∀ code t, Calls Tryd.prog 11 #[.agg #[.int .i64 id, .int .i64 4, .int .i64 ver, .string bn, .int .i64 meth, .string pass, .string mech, .string cred, .bool hasc, .string base, .int .i64 scope, .int .i64 deref, .int .i64 slim, .int .i64 tlim, .bool typ, .slice xfa xfs.length xfc, .slice xaa xal.length xac, .string name, .slice xca xcs.length xcc, .slice xta xts.length xtc, .string nrdn, .bool dold, .string nsup, .bool hsup, .string desc, .string val, .bool hval, .int .i64 aband, .slice xka xks.length xkc], .int .i64 code, .string t] wB fun e w' => e = .returned (.tuple #[.agg #[.int .i64 id, .int .i64 4, .int .i64 code, .string ⟨#[]⟩, .string t, .string ⟨#[]⟩, .slice none 0 0, .string ⟨#[]⟩, .bool false, .slice none 0 0], .bool true]) ∧ Below wB.heap.size wB w') := fun code t => row_any 4 4 id ver meth scope deref slim tlim aband bn pass mech cred base name nrdn nsup desc val hasc typ dold hsup hval xfa xaa xca xta xka xfc xac xcc xtc xkc xfs xal xcs xts xks code t wB (by decide) (hT.below hB 4 (by decide))
  have t1 : wB.cell? ⟨0, 4, none⟩ = some (.int .i64 4) := hT.below hB 4 (by decide)
  have c1 : wB.cell? ⟨w.heap.size, 1, none⟩ = some (.int .i64 4) := (p.cell 1 (by simp)).1
  have c28 : wB.cell? ⟨w.heap.size, 28, none⟩ = some (.slice xka xks.length xkc) := (p.cell 28 (by simp)).1
  have h' : Hid (GRow 4 oV wB xka xks) := h.below oV_len hB
  have hB' : Hid (Below w.heap.size w wB) := hB
  have h1c : (#[.int .i64 id, .int .i64 4, .int .i64 12, .string ⟨#[]⟩, .string Tcr, .string ⟨#[]⟩, .slice none 0 0, .string ⟨#[]⟩, .bool false, .slice none 0 0] : Array Value).all (·.oneCell') = true := by simp [Value.oneCell']
  clear h hT
  go_enter Tryd.func4, Tryd.ntmps4
  go_upto_region 1 with fail
  clear hwA hwB na
  go_wp2_with fail
  go_loopw [4] (fun iv wr => ∃ i : Nat, i ≤ xks.length ∧ iv = .int .i64 (i : Int) ∧ Hid ((xks.take i).any Ctl.crit = false ∧ wr = wB)) (fun iv _ => xks.length - (intOf iv).toNat)
  case atStart => exact ⟨0, Nat.zero_le _, rfl, rfl, rfl⟩
  case round =>
    obtain ⟨i, hi, rfl, hI⟩ := hrel
    have hw' := hI.out.2
    subst hw'
    have hI' : Hid ((xks.take i).any Ctl.crit = false) := hI.out.1
    clear hI t1
    by_cases hlt : i < xks.length
    · obtain ⟨b, off, rfl, h0⟩ := h'.out i hlt
      have i0 : (0 : Int) ≤ (i : Int) := Int.natCast_nonneg _
      have i1 : (i : Int) < (xks.length : Int) := Int.ofNat_lt.2 hlt
      have htk : Hid ((xks.take (i + 1)).any Ctl.crit = ((xks.take i).any Ctl.crit || xks[i].crit)) := by
        unfold Hid
        rw [List.take_succ_eq_append_getElem hlt, List.any_append]
        simp
      have hall : Hid (xks[i].crit = true → xks.any Ctl.crit = true) := fun hq => List.any_eq_true.2 ⟨_, List.getElem_mem hlt, hq⟩
      obtain ⟨⟨xo, xc, xv, xh⟩, hx⟩ : ∃ x, xks[i] = x := ⟨_, rfl⟩
      rw [hx] at h0 htk hall
      have d1 : wr.cell? ⟨b, off + i * 4 + 1, none⟩ = some (.bool xc) := h0 1 (by omega)
      have hlt' : Hid (i < xks.length) := hlt
      dsimp only at htk hall
      clear hx hlt h0
      cases xc with
      | false =>
        go_wp2_with fail
        go_roundw
        case rel => exact ⟨i + 1, hlt'.out, by simp, by unfold Hid; rw [htk.out, hI'.out]; exact ⟨rfl, trivial⟩⟩
        case measure => have := hlt'.out; simp [intOf]; omega
      | true =>
        have hc : Hid (xks.any Ctl.crit = true) := hall.out rfl
        go_wp2_with (first | (refine load_req rfl _ rfl w.heap.size rfl p rfl ?_) | (go_at_call 11; refine (hrow.out _ _).mono ?_; rintro e w1 ⟨rfl, hb1⟩; have q1 := q.below hb1) | (refine store_t info_rep rfl _ _ rfl (w.heap.size + 1) #[.int .i64 id, .int .i64 4, .int .i64 12, .string ⟨#[]⟩, .string Tcr, .string ⟨#[]⟩, .slice none 0 0, .string ⟨#[]⟩, .bool false, .slice none 0 0] rfl rfl q1 rfl rfl h1c ?_))
        exact bodyPost_ret (results_ct rfl _ _ _ _ _ rfl (ld_rep (box_row q1) rfl)) rfl ⟨by rw [hc.out]; rfl, below_row (hB'.out.trans (hb1.mono hB'.out.size)) (by omega) _⟩
    · have hie : i = xks.length := by omega
      subst hie
      have hc : Hid (xks.any Ctl.crit = false) := by have := hI'.out; rw [List.take_length] at this; exact this
      have k1 : ¬ (xks.length : Int) < (xks.length : Int) := by omega
      clear hI' h1c
      have h1c : (#[.int .i64 id, .int .i64 4, .int .i64 53, .string ⟨#[]⟩, .string Tro, .string ⟨#[]⟩, .slice none 0 0, .string ⟨#[]⟩, .bool false, .slice none 0 0] : Array Value).all (·.oneCell') = true := by simp [Value.oneCell']
      go_wp2_with (first | (refine load_req rfl _ rfl w.heap.size rfl p rfl ?_) | (go_at_call 11; refine (hrow.out _ _).mono ?_; rintro e w1 ⟨rfl, hb1⟩; have q1 := q.below hb1) | (refine store_t info_rep rfl _ _ rfl (w.heap.size + 1) #[.int .i64 id, .int .i64 4, .int .i64 53, .string ⟨#[]⟩, .string Tro, .string ⟨#[]⟩, .slice none 0 0, .string ⟨#[]⟩, .bool false, .slice none 0 0] rfl rfl q1 rfl rfl h1c ?_))
      exact bodyPost_ret (results_ct rfl _ _ _ _ _ rfl (ld_rep (box_row q1) rfl)) rfl ⟨by rw [hc.out]; rfl, below_row (hB'.out.trans (hb1.mono hB'.out.size)) (by omega) _⟩
set_option maxRecDepth 100000 in
set_option maxHeartbeats 4000000 in
theorem rRef5 (id ver meth scope deref slim tlim aband : Int) (bn pass mech cred base name nrdn nsup desc val : ByteArray) (hasc typ dold hsup hval : Bool) (xfa xaa xca xta xka : Option Addr) (xfc xac xcc xtc xkc : Nat) (xfs : List Nod) (xal : List (List UInt8)) (xcs : List Chg) (xts : List Att) (xks : List Ctl) (w : World) (hn : xks.length ≤ 2932031007317) (h : GRow 4 oV w xka xks) (hT : KTab w) :
    Calls Tryd.prog 4 #[.agg #[.int .i64 id, .int .i64 5, .int .i64 ver, .string bn, .int .i64 meth, .string pass, .string mech, .string cred, .bool hasc, .string base, .int .i64 scope, .int .i64 deref, .int .i64 slim, .int .i64 tlim, .bool typ, .slice xfa xfs.length xfc, .slice xaa xal.length xac, .string name, .slice xca xcs.length xcc, .slice xta xts.length xtc, .string nrdn, .bool dold, .string nsup, .bool hsup, .string desc, .string val, .bool hval, .int .i64 aband, .slice xka xks.length xkc]] w fun e w' => e = .returned (outV ⟨id, 5, ver, bn, meth, pass, mech, cred, hasc, base, scope, deref, slim, tlim, typ, name, nrdn, dold, nsup, hsup, desc, val, hval, aband⟩ (xks.any Ctl.crit)) ∧ Below w.heap.size w w' := by
  obtain ⟨wA, hwA⟩ : ∃ W, w.alloc (.cells #[.int .i64 id, .int .i64 5, .int .i64 ver, .string bn, .int .i64 meth, .string pass, .string mech, .string cred, .bool hasc, .string base, .int .i64 scope, .int .i64 deref, .int .i64 slim, .int .i64 tlim, .bool typ, .slice xfa xfs.length xfc, .slice xaa xal.length xac, .string name, .slice xca xcs.length xcc, .slice xta xts.length xtc, .string nrdn, .bool dold, .string nsup, .bool hsup, .string desc, .string val, .bool hval, .int .i64 aband, .slice xka xks.length xkc] 36) = W := ⟨_, rfl⟩
  obtain ⟨wB, hwB⟩ : ∃ W, wA.alloc (.cells #[.int .i64 0, .int .i64 0, .int .i64 0, .string ⟨#[]⟩, .string ⟨#[]⟩, .string ⟨#[]⟩, .slice none 0 0, .string ⟨#[]⟩, .bool false, .slice none 0 0] 42) = W := ⟨_, rfl⟩
  have na : wA.heap.size = w.heap.size + 1 := by rw [← hwA]; simp
  have p : Box wB w.heap.size 36 #[.int .i64 id, .int .i64 5, .int .i64 ver, .string bn, .int .i64 meth, .string pass, .string mech, .string cred, .bool hasc, .string base, .int .i64 scope, .int .i64 deref, .int .i64 slim, .int .i64 tlim, .bool typ, .slice xfa xfs.length xfc, .slice xaa xal.length xac, .string name, .slice xca xcs.length xcc, .slice xta xts.length xtc, .string nrdn, .bool dold, .string nsup, .bool hsup, .string desc, .string val, .bool hval, .int .i64 aband, .slice xka xks.length xkc] := by rw [← hwB]; exact Box.past (by rw [← hwA]; exact Box.new _ _ _) _
  have q : Box wB (w.heap.size + 1) 42 #[.int .i64 0, .int .i64 0, .int .i64 0, .string ⟨#[]⟩, .string ⟨#[]⟩, .string ⟨#[]⟩, .slice none 0 0, .string ⟨#[]⟩, .bool false, .slice none 0 0] := by rw [← hwB, ← na]; exact Box.new _ _ _
  have hB : Below w.heap.size w wB := by
    rw [← hwB, ← hwA]
    exact ((Below.refl _ _).alloc (Nat.le_refl _) _).alloc (by simp) _
  have hrow : Hid (∀ code t, Calls Tryd.prog 11 #[.agg #[.int .i64 id, .int .i64 5, .int .i64 ver, .string bn, .int .i64 meth, .string pass, .string mech, .string cred, .bool hasc, .string base, .int .i64 scope, .int .i64 deref, .int .i64 slim, .int .i64 tlim, .bool typ, .slice xfa xfs.length xfc, .slice xaa xal.length xac, .string name, .slice xca xcs.length xcc, .slice xta xts.length xtc, .string nrdn, .bool dold, .string nsup, .bool hsup, .string desc, .string val, .bool hval, .int .i64 aband, .slice xka xks.length xkc], .int .i64 code, .string t] wB fun e w' => e = .returned (.tuple #[.agg #[.int .i64 id, .int .i64 5, .int .i64 code, .string ⟨#[]⟩, .string t, .string ⟨#[]⟩, .slice none 0 0, .string ⟨#[]⟩, .bool false, .slice none 0 0], .bool true]) ∧ Below wB.heap.size wB w') := fun code t => row_any 5 5 id ver meth scope deref slim tlim aband bn pass mech cred base name nrdn nsup desc val hasc typ dold hsup hval xfa xaa xca xta xka xfc xac xcc xtc xkc xfs xal xcs xts xks code t wB (by decide) (hT.below hB 5 (by decide))
  have t1 : wB.cell? ⟨0, 5, none⟩ = some (.int .i64 5) := hT.below hB 5 (by decide)
  have c1 : wB.cell? ⟨w.heap.size, 1, none⟩ = some (.int .i64 5) := (p.cell 1 (by simp)).1
  have c28 : wB.cell? ⟨w.heap.size, 28, none⟩ = some (.slice xka xks.length xkc) := (p.cell 28 (by simp)).1
  have h' : Hid (GRow 4 oV wB xka xks) := h.below oV_len hB
  have hB' : Hid (Below w.heap.size w wB) := hB
  have h1c : (#[.int .i64 id, .int .i64 5, .int .i64 12, .string ⟨#[]⟩, .string Tcr, .string ⟨#[]⟩, .slice none 0 0, .string ⟨#[]⟩, .bool false, .slice none 0 0] : Array Value).all (·.oneCell') = true := by simp [Value.oneCell']
  clear h hT
  go_enter Tryd.func4, Tryd.ntmps4
  go_upto_region 1 with fail
  clear hwA hwB na
  go_wp2_with fail
  go_loopw [4] (fun iv wr => ∃ i : Nat, i ≤ xks.length ∧ iv = .int .i64 (i : Int) ∧ Hid ((xks.take i).any Ctl.crit = false ∧ wr = wB)) (fun iv _ => xks.length - (intOf iv).toNat)
  case atStart => exact ⟨0, Nat.zero_le _, rfl, rfl, rfl⟩
  case round =>
    obtain ⟨i, hi, rfl, hI⟩ := hrel
    have hw' := hI.out.2
    subst hw'
    have hI' : Hid ((xks.take i).any Ctl.crit = false) := hI.out.1
    clear hI t1
    by_cases hlt : i < xks.length
    · obtain ⟨b, off, rfl, h0⟩ := h'.out i hlt
      have i0 : (0 : Int) ≤ (i : Int) := Int.natCast_nonneg _
      have i1 : (i : Int) < (xks.length : Int) := Int.ofNat_lt.2 hlt
      have htk : Hid ((xks.take (i + 1)).any Ctl.crit = ((xks.take i).any Ctl.crit || xks[i].crit)) := by
        unfold Hid
        rw [List.take_succ_eq_append_getElem hlt, List.any_append]
        simp
      have hall : Hid (xks[i].crit = true → xks.any Ctl.crit = true) := fun hq => List.any_eq_true.2 ⟨_, List.getElem_mem hlt, hq⟩
      obtain ⟨⟨xo, xc, xv, xh⟩, hx⟩ : ∃ x, xks[i] = x := ⟨_, rfl⟩
      rw [hx] at h0 htk hall
      have d1 : wr.cell? ⟨b, off + i * 4 + 1, none⟩ = some (.bool xc) := h0 1 (by omega)
      have hlt' : Hid (i < xks.length) := hlt
      dsimp only at htk hall
      clear hx hlt h0
      cases xc with
      | false =>
        go_wp2_with fail
        go_roundw
        case rel => exact ⟨i + 1, hlt'.out, by simp, by unfold Hid; rw [htk.out, hI'.out]; exact ⟨rfl, trivial⟩⟩
        case measure => have := hlt'.out; simp [intOf]; omega
      | true =>
        have hc : Hid (xks.any Ctl.crit = true) := hall.out rfl
        go_wp2_with (first | (refine load_req rfl _ rfl w.heap.size rfl p rfl ?_) | (go_at_call 11; refine (hrow.out _ _).mono ?_; rintro e w1 ⟨rfl, hb1⟩; have q1 := q.below hb1) | (refine store_t info_rep rfl _ _ rfl (w.heap.size + 1) #[.int .i64 id, .int .i64 5, .int .i64 12, .string ⟨#[]⟩, .string Tcr, .string ⟨#[]⟩, .slice none 0 0, .string ⟨#[]⟩, .bool false, .slice none 0 0] rfl rfl q1 rfl rfl h1c ?_))
        exact bodyPost_ret (results_ct rfl _ _ _ _ _ rfl (ld_rep (box_row q1) rfl)) rfl ⟨by rw [hc.out]; rfl, below_row (hB'.out.trans (hb1.mono hB'.out.size)) (by omega) _⟩
    · have hie : i = xks.length := by omega
      subst hie
      have hc : Hid (xks.any Ctl.crit = false) := by have := hI'.out; rw [List.take_length] at this; exact this
      have k1 : ¬ (xks.length : Int) < (xks.length : Int) := by omega
      clear hI' h1c
      have h1c : (#[.int .i64 id, .int .i64 5, .int .i64 53, .string ⟨#[]⟩, .string Tro, .string ⟨#[]⟩, .slice none 0 0, .string ⟨#[]⟩, .bool false, .slice none 0 0] : Array Value).all (·.oneCell') = true := by simp [Value.oneCell']
      go_wp2_with (first | (refine load_req rfl _ rfl w.heap.size rfl p rfl ?_) | (go_at_call 11; refine (hrow.out _ _).mono ?_; rintro e w1 ⟨rfl, hb1⟩; have q1 := q.below hb1) | (refine store_t info_rep rfl _ _ rfl (w.heap.size + 1) #[.int .i64 id, .int .i64 5, .int .i64 53, .string ⟨#[]⟩, .string Tro, .string ⟨#[]⟩, .slice none 0 0, .string ⟨#[]⟩, .bool false, .slice none 0 0] rfl rfl q1 rfl rfl h1c ?_))
      exact bodyPost_ret (results_ct rfl _ _ _ _ _ rfl (ld_rep (box_row q1) rfl)) rfl ⟨by rw [hc.out]; rfl, below_row (hB'.out.trans (hb1.mono hB'.out.size)) (by omega) _⟩
set_option maxRecDepth 100000 in
set_option maxHeartbeats 4000000 in
theorem rRef6 (id ver meth scope deref slim tlim aband : Int) (bn pass mech cred base name nrdn nsup desc val : ByteArray) (hasc typ dold hsup hval : Bool) (xfa xaa xca xta xka : Option Addr) (xfc xac xcc xtc xkc : Nat) (xfs : List Nod) (xal : List (List UInt8)) (xcs : List Chg) (xts : List Att) (xks : List Ctl) (w : World) (hn : xks.length ≤ 2932031007317) (h : GRow 4 oV w xka xks) (hT : KTab w) :
    Calls Tryd.prog 4 #[.agg #[.int .i64 id, .int .i64 6, .int .i64 ver, .string bn, .int .i64 meth, .string pass, .string mech, .string cred, .bool hasc, .string base, .int .i64 scope, .int .i64 deref, .int .i64 slim, .int .i64 tlim, .bool typ, .slice xfa xfs.length xfc, .slice xaa xal.length xac, .string name, .slice xca xcs.length xcc, .slice xta xts.length xtc, .string nrdn, .bool dold, .string nsup, .bool hsup, .string desc, .string val, .bool hval, .int .i64 aband, .slice xka xks.length xkc]] w fun e w' => e = .returned (outV ⟨id, 6, ver, bn, meth, pass, mech, cred, hasc, base, scope, deref, slim, tlim, typ, name, nrdn, dold, nsup, hsup, desc, val, hval, aband⟩ (xks.any Ctl.crit)) ∧ Below w.heap.size w w' := by
  obtain ⟨wA, hwA⟩ : ∃ W, w.alloc (.cells #[.int .i64 id, .int .i64 6, .int .i64 ver, .string bn, .int .i64 meth, .string pass, .string mech, .string cred, .bool hasc, .string base, .int .i64 scope, .int .i64 deref, .int .i64 slim, .int .i64 tlim, .bool typ, .slice xfa xfs.length xfc, .slice xaa xal.length xac, .string name, .slice xca xcs.length xcc, .slice xta xts.length xtc, .string nrdn, .bool dold, .string nsup, .bool hsup, .string desc, .string val, .bool hval, .int .i64 aband, .slice xka xks.length xkc] 36) = W := ⟨_, rfl⟩
  obtain ⟨wB, hwB⟩ : ∃ W, wA.alloc (.cells #[.int .i64 0, .int .i64 0, .int .i64 0, .string ⟨#[]⟩, .string ⟨#[]⟩, .string ⟨#[]⟩, .slice none 0 0, .string ⟨#[]⟩, .bool false, .slice none 0 0] 42) = W := ⟨_, rfl⟩
  have na : wA.heap.size = w.heap.size + 1 := by rw [← hwA]; simp
  have p : Box wB w.heap.size 36 #[.int .i64 id, .int .i64 6, .int .i64 ver, .string bn, .int .i64 meth, .string pass, .string mech, .string cred, .bool hasc, .string base, .int .i64 scope, .int .i64 deref, .int .i64 slim, .int .i64 tlim, .bool typ, .slice xfa xfs.length xfc, .slice xaa xal.length xac, .string name, .slice xca xcs.length xcc, .slice xta xts.length xtc, .string nrdn, .bool dold, .string nsup, .bool hsup, .string desc, .string val, .bool hval, .int .i64 aband, .slice xka xks.length xkc] := by rw [← hwB]; exact Box.past (by rw [← hwA]; exact Box.new _ _ _) _
  have q : Box wB (w.heap.size + 1) 42 #[.int .i64 0, .int .i64 0, .int .i64 0, .string ⟨#[]⟩, .string ⟨#[]⟩, .string ⟨#[]⟩, .slice none 0 0, .string ⟨#[]⟩, .bool false, .slice none 0 0] := by rw [← hwB, ← na]; exact Box.new _ _ _
  have hB : Below w.heap.size w wB := by
    rw [← hwB, ← hwA]
    exact ((Below.refl _ _).alloc (Nat.le_refl _) _).alloc (by simp) _
  have hrow : Hid (∀ code t, Calls Tryd.prog 11 #[.agg #[.int .i64 id, .int .i64 6, .int .i64 ver, .string bn, .int .i64 meth, .string pass, .string mech, .string cred, .bool hasc, .string base, .int .i64 scope, .int .i64 deref, .int .i64 slim, .int .i64 tlim, .bool typ, .slice xfa xfs.length xfc, .slice xaa xal.length xac, .string name, .slice xca xcs.length xcc, .slice xta xts.length xtc, .string nrdn, .bool dold, .string nsup, .bool hsup, .string desc, .string val, .bool hval, .int .i64 aband, .slice xka xks.length xkc], .int .i64 code, .string t] wB fun e w' => e = .returned (.tuple #[.agg #[.int .i64 id, .int .i64 6, .int .i64 code, .string ⟨#[]⟩, .string t, .string ⟨#[]⟩, .slice none 0 0, .string ⟨#[]⟩, .bool false, .slice none 0 0], .bool true]) ∧ Below wB.heap.size wB w') := fun code t => row_any 6 6 id ver meth scope deref slim tlim aband bn pass mech cred base name nrdn nsup desc val hasc typ dold hsup hval xfa xaa xca xta xka xfc xac xcc xtc xkc xfs xal xcs xts xks code t wB (by decide) (hT.below hB 6 (by decide))
  have t1 : wB.cell? ⟨0, 6, none⟩ = some (.int .i64 6) := hT.below hB 6 (by decide)
  have c1 : wB.cell? ⟨w.heap.size, 1, none⟩ = some (.int .i64 6) := (p.cell 1 (by simp)).1
  have c28 : wB.cell? ⟨w.heap.size, 28, none⟩ = some (.slice xka xks.length xkc) := (p.cell 28 (by simp)).1
  have h' : Hid (GRow 4 oV wB xka xks) := h.below oV_len hB
  have hB' : Hid (Below w.heap.size w wB) := hB
  have h1c : (#[.int .i64 id, .int .i64 6, .int .i64 12, .string ⟨#[]⟩, .string Tcr, .string ⟨#[]⟩, .slice none 0 0, .string ⟨#[]⟩, .bool false, .slice none 0 0] : Array Value).all (·.oneCell') = true := by simp [Value.oneCell']
  clear h hT
  go_enter Tryd.func4, Tryd.ntmps4
  go_upto_region 1 with fail
  clear hwA hwB na
  go_wp2_with fail
  go_loopw [4] (fun iv wr => ∃ i : Nat, i ≤ xks.length ∧ iv = .int .i64 (i : Int) ∧ Hid ((xks.take i).any Ctl.crit = false ∧ wr = wB)) (fun iv _ => xks.length - (intOf iv).toNat)
  case atStart => exact ⟨0, Nat.zero_le _, rfl, rfl, rfl⟩
  case round =>
    obtain ⟨i, hi, rfl, hI⟩ := hrel
    have hw' := hI.out.2
    subst hw'
    have hI' : Hid ((xks.take i).any Ctl.crit = false) := hI.out.1
    clear hI t1
    by_cases hlt : i < xks.length
    · obtain ⟨b, off, rfl, h0⟩ := h'.out i hlt
      have i0 : (0 : Int) ≤ (i : Int) := Int.natCast_nonneg _
      have i1 : (i : Int) < (xks.length : Int) := Int.ofNat_lt.2 hlt
      have htk : Hid ((xks.take (i + 1)).any Ctl.crit = ((xks.take i).any Ctl.crit || xks[i].crit)) := by
        unfold Hid
        rw [List.take_succ_eq_append_getElem hlt, List.any_append]
        simp
      have hall : Hid (xks[i].crit = true → xks.any Ctl.crit = true) := fun hq => List.any_eq_true.2 ⟨_, List.getElem_mem hlt, hq⟩
      obtain ⟨⟨xo, xc, xv, xh⟩, hx⟩ : ∃ x, xks[i] = x := ⟨_, rfl⟩
      rw [hx] at h0 htk hall
      have d1 : wr.cell? ⟨b, off + i * 4 + 1, none⟩ = some (.bool xc) := h0 1 (by omega)
      have hlt' : Hid (i < xks.length) := hlt
      dsimp only at htk hall
      clear hx hlt h0
      cases xc with
      | false =>
        go_wp2_with fail
        go_roundw
        case rel => exact ⟨i + 1, hlt'.out, by simp, by unfold Hid; rw [htk.out, hI'.out]; exact ⟨rfl, trivial⟩⟩
        case measure => have := hlt'.out; simp [intOf]; omega
      | true =>
        have hc : Hid (xks.any Ctl.crit = true) := hall.out rfl
        go_wp2_with (first | (refine load_req rfl _ rfl w.heap.size rfl p rfl ?_) | (go_at_call 11; refine (hrow.out _ _).mono ?_; rintro e w1 ⟨rfl, hb1⟩; have q1 := q.below hb1) | (refine store_t info_rep rfl _ _ rfl (w.heap.size + 1) #[.int .i64 id, .int .i64 6, .int .i64 12, .string ⟨#[]⟩, .string Tcr, .string ⟨#[]⟩, .slice none 0 0, .string ⟨#[]⟩, .bool false, .slice none 0 0] rfl rfl q1 rfl rfl h1c ?_))
        exact bodyPost_ret (results_ct rfl _ _ _ _ _ rfl (ld_rep (box_row q1) rfl)) rfl ⟨by rw [hc.out]; rfl, below_row (hB'.out.trans (hb1.mono hB'.out.size)) (by omega) _⟩
    · have hie : i = xks.length := by omega
      subst hie
      have hc : Hid (xks.any Ctl.crit = false) := by have := hI'.out; rw [List.take_length] at this; exact this
      have k1 : ¬ (xks.length : Int) < (xks.length : Int) := by omega
      clear hI' h1c
      have h1c : (#[.int .i64 id, .int .i64 6, .int .i64 53, .string ⟨#[]⟩, .string Tro, .string ⟨#[]⟩, .slice none 0 0, .string ⟨#[]⟩, .bool false, .slice none 0 0] : Array Value).all (·.oneCell') = true := by simp [Value.oneCell']
      go_wp2_with (first | (refine load_req rfl _ rfl w.heap.size rfl p rfl ?_) | (go_at_call 11; refine (hrow.out _ _).mono ?_; rintro e w1 ⟨rfl, hb1⟩; have q1 := q.below hb1) | (refine store_t info_rep rfl _ _ rfl (w.heap.size + 1) #[.int .i64 id, .int .i64 6, .int .i64 53, .string ⟨#[]⟩, .string Tro, .string ⟨#[]⟩, .slice none 0 0, .string ⟨#[]⟩, .bool false, .slice none 0 0] rfl rfl q1 rfl rfl h1c ?_))
      exact bodyPost_ret (results_ct rfl _ _ _ _ _ rfl (ld_rep (box_row q1) rfl)) rfl ⟨by rw [hc.out]; rfl, below_row (hB'.out.trans (hb1.mono hB'.out.size)) (by omega) _⟩
set_option maxRecDepth 100000 in
set_option maxHeartbeats 4000000 in
theorem rRef7 (id ver meth scope deref slim tlim aband : Int) (bn pass mech cred base name nrdn nsup desc val : ByteArray) (hasc typ dold hsup hval : Bool) (xfa xaa xca xta xka : Option Addr) (xfc xac xcc xtc xkc : Nat) (xfs : List Nod) (xal : List (List UInt8)) (xcs : List Chg) (xts : List Att) (xks : List Ctl) (w : World) (hn : xks.length ≤ 2932031007317) (h : GRow 4 oV w xka xks) (hT : KTab w) :
    Calls Tryd.prog 4 #[.agg #[.int .i64 id, .int .i64 7, .int .i64 ver, .string bn, .int .i64 meth, .string pass, .string mech, .string cred, .bool hasc, .string base, .int .i64 scope, .int .i64 deref, .int .i64 slim, .int .i64 tlim, .bool typ, .slice xfa xfs.length xfc, .slice xaa xal.length xac, .string name, .slice xca xcs.length xcc, .slice xta xts.length xtc, .string nrdn, .bool dold, .string nsup, .bool hsup, .string desc, .string val, .bool hval, .int .i64 aband, .slice xka xks.length xkc]] w fun e w' => e = .returned (outV ⟨id, 7, ver, bn, meth, pass, mech, cred, hasc, base, scope, deref, slim, tlim, typ, name, nrdn, dold, nsup, hsup, desc, val, hval, aband⟩ (xks.any Ctl.crit)) ∧ Below w.heap.size w w' := by
  obtain ⟨wA, hwA⟩ : ∃ W, w.alloc (.cells #[.int .i64 id, .int .i64 7, .int .i64 ver, .string bn, .int .i64 meth, .string pass, .string mech, .string cred, .bool hasc, .string base, .int .i64 scope, .int .i64 deref, .int .i64 slim, .int .i64 tlim, .bool typ, .slice xfa xfs.length xfc, .slice xaa xal.length xac, .string name, .slice xca xcs.length xcc, .slice xta xts.length xtc, .string nrdn, .bool dold, .string nsup, .bool hsup, .string desc, .string val, .bool hval, .int .i64 aband, .slice xka xks.length xkc] 36) = W := ⟨_, rfl⟩
  obtain ⟨wB, hwB⟩ : ∃ W, wA.alloc (.cells #[.int .i64 0, .int .i64 0, .int .i64 0, .string ⟨#[]⟩, .string ⟨#[]⟩, .string ⟨#[]⟩, .slice none 0 0, .string ⟨#[]⟩, .bool false, .slice none 0 0] 42) = W := ⟨_, rfl⟩
  have na : wA.heap.size = w.heap.size + 1 := by rw [← hwA]; simp
  have p : Box wB w.heap.size 36 #[.int .i64 id, .int .i64 7, .int .i64 ver, .string bn, .int .i64 meth, .string pass, .string mech, .string cred, .bool hasc, .string base, .int .i64 scope, .int .i64 deref, .int .i64 slim, .int .i64 tlim, .bool typ, .slice xfa xfs.length xfc, .slice xaa xal.length xac, .string name, .slice xca xcs.length xcc, .slice xta xts.length xtc, .string nrdn, .bool dold, .string nsup, .bool hsup, .string desc, .string val, .bool hval, .int .i64 aband, .slice xka xks.length xkc] := by rw [← hwB]; exact Box.past (by rw [← hwA]; exact Box.new _ _ _) _
  have q : Box wB (w.heap.size + 1) 42 #[.int .i64 0, .int .i64 0, .int .i64 0, .string ⟨#[]⟩, .string ⟨#[]⟩, .string ⟨#[]⟩, .slice none 0 0, .string ⟨#[]⟩, .bool false, .slice none 0 0] := by rw [← hwB, ← na]; exact Box.new _ _ _
  have hB : Below w.heap.size w wB := by
    rw [← hwB, ← hwA]
    exact ((Below.refl _ _).alloc (Nat.le_refl _) _).alloc (by simp) _
  have hrow : Hid (∀ code t, Calls Tryd.prog 11 #[.agg #[.int .i64 id, .int .i64 7, .int .i64 ver, .string bn, .int .i64 meth, .string pass, .string mech, .string cred, .bool hasc, .string base, .int .i64 scope, .int .i64 deref, .int .i64 slim, .int .i64 tlim, .bool typ, .slice xfa xfs.length xfc, .slice xaa xal.length xac, .string name, .slice xca xcs.length xcc, .slice xta xts.length xtc, .string nrdn, .bool dold, .string nsup, .bool hsup, .string desc, .string val, .bool hval, .int .i64 aband, .slice xka xks.length xkc], .int .i64 code, .string t] wB fun e w' => e = .returned (.tuple #[.agg #[.int .i64 id, .int .i64 7, .int .i64 code, .string ⟨#[]⟩, .string t, .string ⟨#[]⟩, .slice none 0 0, .string ⟨#[]⟩, .bool false, .slice none 0 0], .bool true]) ∧ Below wB.heap.size wB w') := fun code t => row_any 7 7 id ver meth scope deref slim tlim aband bn pass mech cred base name nrdn nsup desc val hasc typ dold hsup hval xfa xaa xca xta xka xfc xac xcc xtc xkc xfs xal xcs xts xks code t wB (by decide) (hT.below hB 7 (by decide))
  have t1 : wB.cell? ⟨0, 7, none⟩ = some (.int .i64 7) := hT.below hB 7 (by decide)
  have c1 : wB.cell? ⟨w.heap.size, 1, none⟩ = some (.int .i64 7) := (p.cell 1 (by simp)).1
  have c28 : wB.cell? ⟨w.heap.size, 28, none⟩ = some (.slice xka xks.length xkc) := (p.cell 28 (by simp)).1
  have h' : Hid (GRow 4 oV wB xka xks) := h.below oV_len hB
  have hB' : Hid (Below w.heap.size w wB) := hB
  have h1c : (#[.int .i64 id, .int .i64 7, .int .i64 12, .string ⟨#[]⟩, .string Tcr, .string ⟨#[]⟩, .slice none 0 0, .string ⟨#[]⟩, .bool false, .slice none 0 0] : Array Value).all (·.oneCell') = true := by simp [Value.oneCell']
  clear h hT
  go_enter Tryd.func4, Tryd.ntmps4
  go_upto_region 1 with fail
  clear hwA hwB na
  go_wp2_with fail
  go_loopw [4] (fun iv wr => ∃ i : Nat, i ≤ xks.length ∧ iv = .int .i64 (i : Int) ∧ Hid ((xks.take i).any Ctl.crit = false ∧ wr = wB)) (fun iv _ => xks.length - (intOf iv).toNat)
  case atStart => exact ⟨0, Nat.zero_le _, rfl, rfl, rfl⟩
  case round =>
    obtain ⟨i, hi, rfl, hI⟩ := hrel
    have hw' := hI.out.2
    subst hw'
    have hI' : Hid ((xks.take i).any Ctl.crit = false) := hI.out.1
    clear hI t1
    by_cases hlt : i < xks.length
    · obtain ⟨b, off, rfl, h0⟩ := h'.out i hlt
      have i0 : (0 : Int) ≤ (i : Int) := Int.natCast_nonneg _
      have i1 : (i : Int) < (xks.length : Int) := Int.ofNat_lt.2 hlt
      have htk : Hid ((xks.take (i + 1)).any Ctl.crit = ((xks.take i).any Ctl.crit || xks[i].crit)) := by
        unfold Hid
        rw [List.take_succ_eq_append_getElem hlt, List.any_append]
        simp
      have hall : Hid (xks[i].crit = true → xks.any Ctl.crit = true) := fun hq => List.any_eq_true.2 ⟨_, List.getElem_mem hlt, hq⟩
      obtain ⟨⟨xo, xc, xv, xh⟩, hx⟩ : ∃ x, xks[i] = x := ⟨_, rfl⟩
      rw [hx] at h0 htk hall
      have d1 : wr.cell? ⟨b, off + i * 4 + 1, none⟩ = some (.bool xc) := h0 1 (by omega)
      have hlt' : Hid (i < xks.length) := hlt
      dsimp only at htk hall
      clear hx hlt h0
      cases xc with
      | false =>
        go_wp2_with fail
        go_roundw
        case rel => exact ⟨i + 1, hlt'.out, by simp, by unfold Hid; rw [htk.out, hI'.out]; exact ⟨rfl, trivial⟩⟩
        case measure => have := hlt'.out; simp [intOf]; omega
      | true =>
        have hc : Hid (xks.any Ctl.crit = true) := hall.out rfl
        go_wp2_with (first | (refine load_req rfl _ rfl w.heap.size rfl p rfl ?_) | (go_at_call 11; refine (hrow.out _ _).mono ?_; rintro e w1 ⟨rfl, hb1⟩; have q1 := q.below hb1) | (refine store_t info_rep rfl _ _ rfl (w.heap.size + 1) #[.int .i64 id, .int .i64 7, .int .i64 12, .string ⟨#[]⟩, .string Tcr, .string ⟨#[]⟩, .slice none 0 0, .string ⟨#[]⟩, .bool false, .slice none 0 0] rfl rfl q1 rfl rfl h1c ?_))
        exact bodyPost_ret (results_ct rfl _ _ _ _ _ rfl (ld_rep (box_row q1) rfl)) rfl ⟨by rw [hc.out]; rfl, below_row (hB'.out.trans (hb1.mono hB'.out.size)) (by omega) _⟩
    · have hie : i = xks.length := by omega
      subst hie
      have hc : Hid (xks.any Ctl.crit = false) := by have := hI'.out; rw [List.take_length] at this; exact this
      have k1 : ¬ (xks.length : Int) < (xks.length : Int) := by omega
      clear hI' h1c
      have h1c : (#[.int .i64 id, .int .i64 7, .int .i64 53, .string ⟨#[]⟩, .string Tnc, .string ⟨#[]⟩, .slice none 0 0, .string ⟨#[]⟩, .bool false, .slice none 0 0] : Array Value).all (·.oneCell') = true := by simp [Value.oneCell']
      go_wp2_with (first | (refine load_req rfl _ rfl w.heap.size rfl p rfl ?_) | (go_at_call 11; refine (hrow.out _ _).mono ?_; rintro e w1 ⟨rfl, hb1⟩; have q1 := q.below hb1) | (refine store_t info_rep rfl _ _ rfl (w.heap.size + 1) #[.int .i64 id, .int .i64 7, .int .i64 53, .string ⟨#[]⟩, .string Tnc, .string ⟨#[]⟩, .slice none 0 0, .string ⟨#[]⟩, .bool false, .slice none 0 0] rfl rfl q1 rfl rfl h1c ?_))
      exact bodyPost_ret (results_ct rfl _ _ _ _ _ rfl (ld_rep (box_row q1) rfl)) rfl ⟨by rw [hc.out]; rfl, below_row (hB'.out.trans (hb1.mono hB'.out.size)) (by omega) _⟩
set_option maxRecDepth 100000 in
set_option maxHeartbeats 4000000 in
theorem rRef9 (id ver meth scope deref slim tlim aband : Int) (bn pass mech cred base name nrdn nsup desc val : ByteArray) (hasc typ dold hsup hval : Bool) (xfa xaa xca xta xka : Option Addr) (xfc xac xcc xtc xkc : Nat) (xfs : List Nod) (xal : List (List UInt8)) (xcs : List Chg) (xts : List Att) (xks : List Ctl) (w : World) (hn : xks.length ≤ 2932031007317) (h : GRow 4 oV w xka xks) (hT : KTab w) :
    Calls Tryd.prog 4 #[.agg #[.int .i64 id, .int .i64 9, .int .i64 ver, .string bn, .int .i64 meth, .string pass, .string mech, .string cred, .bool hasc, .string base, .int .i64 scope, .int .i64 deref, .int .i64 slim, .int .i64 tlim, .bool typ, .slice xfa xfs.length xfc, .slice xaa xal.length xac, .string name, .slice xca xcs.length xcc, .slice xta xts.length xtc, .string nrdn, .bool dold, .string nsup, .bool hsup, .string desc, .string val, .bool hval, .int .i64 aband, .slice xka xks.length xkc]] w fun e w' => e = .returned (outV ⟨id, 9, ver, bn, meth, pass, mech, cred, hasc, base, scope, deref, slim, tlim, typ, name, nrdn, dold, nsup, hsup, desc, val, hval, aband⟩ (xks.any Ctl.crit)) ∧ Below w.heap.size w w' := by
  obtain ⟨wA, hwA⟩ : ∃ W, w.alloc (.cells #[.int .i64 id, .int .i64 9, .int .i64 ver, .string bn, .int .i64 meth, .string pass, .string mech, .string cred, .bool hasc, .string base, .int .i64 scope, .int .i64 deref, .int .i64 slim, .int .i64 tlim, .bool typ, .slice xfa xfs.length xfc, .slice xaa xal.length xac, .string name, .slice xca xcs.length xcc, .slice xta xts.length xtc, .string nrdn, .bool dold, .string nsup, .bool hsup, .string desc, .string val, .bool hval, .int .i64 aband, .slice xka xks.length xkc] 36) = W := ⟨_, rfl⟩
  obtain ⟨wB, hwB⟩ : ∃ W, wA.alloc (.cells #[.int .i64 0, .int .i64 0, .int .i64 0, .string ⟨#[]⟩, .string ⟨#[]⟩, .string ⟨#[]⟩, .slice none 0 0, .string ⟨#[]⟩, .bool false, .slice none 0 0] 42) = W := ⟨_, rfl⟩
  have na : wA.heap.size = w.heap.size + 1 := by rw [← hwA]; simp
  have p : Box wB w.heap.size 36 #[.int .i64 id, .int .i64 9, .int .i64 ver, .string bn, .int .i64 meth, .string pass, .string mech, .string cred, .bool hasc, .string base, .int .i64 scope, .int .i64 deref, .int .i64 slim, .int .i64 tlim, .bool typ, .slice xfa xfs.length xfc, .slice xaa xal.length xac, .string name, .slice xca xcs.length xcc, .slice xta xts.length xtc, .string nrdn, .bool dold, .string nsup, .bool hsup, .string desc, .string val, .bool hval, .int .i64 aband, .slice xka xks.length xkc] := by rw [← hwB]; exact Box.past (by rw [← hwA]; exact Box.new _ _ _) _
  have q : Box wB (w.heap.size + 1) 42 #[.int .i64 0, .int .i64 0, .int .i64 0, .string ⟨#[]⟩, .string ⟨#[]⟩, .string ⟨#[]⟩, .slice none 0 0, .string ⟨#[]⟩, .bool false, .slice none 0 0] := by rw [← hwB, ← na]; exact Box.new _ _ _
  have hB : Below w.heap.size w wB := by
    rw [← hwB, ← hwA]
    exact ((Below.refl _ _).alloc (Nat.le_refl _) _).alloc (by simp) _
  have hrow : Hid (∀ code t, Calls Tryd.prog 11 #[.agg #[.int .i64 id, .int .i64 9, .int .i64 ver, .string bn, .int .i64 meth, .string pass, .string mech, .string cred, .bool hasc, .string base, .int .i64 scope, .int .i64 deref, .int .i64 slim, .int .i64 tlim, .bool typ, .slice xfa xfs.length xfc, .slice xaa xal.length xac, .string name, .slice xca xcs.length xcc, .slice xta xts.length xtc, .string nrdn, .bool dold, .string nsup, .bool hsup, .string desc, .string val, .bool hval, .int .i64 aband, .slice xka xks.length xkc], .int .i64 code, .string t] wB fun e w' => e = .returned (.tuple #[.agg #[.int .i64 id, .int .i64 8, .int .i64 code, .string ⟨#[]⟩, .string t, .string ⟨#[]⟩, .slice none 0 0, .string ⟨#[]⟩, .bool false, .slice none 0 0], .bool true]) ∧ Below wB.heap.size wB w') := fun code t => row_any 9 8 id ver meth scope deref slim tlim aband bn pass mech cred base name nrdn nsup desc val hasc typ dold hsup hval xfa xaa xca xta xka xfc xac xcc xtc xkc xfs xal xcs xts xks code t wB (by decide) (hT.below hB 9 (by decide))
  have t1 : wB.cell? ⟨0, 9, none⟩ = some (.int .i64 8) := hT.below hB 9 (by decide)
  have c1 : wB.cell? ⟨w.heap.size, 1, none⟩ = some (.int .i64 9) := (p.cell 1 (by simp)).1
  have c28 : wB.cell? ⟨w.heap.size, 28, none⟩ = some (.slice xka xks.length xkc) := (p.cell 28 (by simp)).1
  have h' : Hid (GRow 4 oV wB xka xks) := h.below oV_len hB
  have hB' : Hid (Below w.heap.size w wB) := hB
  have h1c : (#[.int .i64 id, .int .i64 8, .int .i64 12, .string ⟨#[]⟩, .string Tcr, .string ⟨#[]⟩, .slice none 0 0, .string ⟨#[]⟩, .bool false, .slice none 0 0] : Array Value).all (·.oneCell') = true := by simp [Value.oneCell']
  clear h hT
  go_enter Tryd.func4, Tryd.ntmps4
  go_upto_region 1 with fail
  clear hwA hwB na
  go_wp2_with fail
  go_loopw [4] (fun iv wr => ∃ i : Nat, i ≤ xks.length ∧ iv = .int .i64 (i : Int) ∧ Hid ((xks.take i).any Ctl.crit = false ∧ wr = wB)) (fun iv _ => xks.length - (intOf iv).toNat)
  case atStart => exact ⟨0, Nat.zero_le _, rfl, rfl, rfl⟩
  case round =>
    obtain ⟨i, hi, rfl, hI⟩ := hrel
    have hw' := hI.out.2
    subst hw'
    have hI' : Hid ((xks.take i).any Ctl.crit = false) := hI.out.1
    clear hI t1
    by_cases hlt : i < xks.length
    · obtain ⟨b, off, rfl, h0⟩ := h'.out i hlt
      have i0 : (0 : Int) ≤ (i : Int) := Int.natCast_nonneg _
      have i1 : (i : Int) < (xks.length : Int) := Int.ofNat_lt.2 hlt
      have htk : Hid ((xks.take (i + 1)).any Ctl.crit = ((xks.take i).any Ctl.crit || xks[i].crit)) := by
        unfold Hid
        rw [List.take_succ_eq_append_getElem hlt, List.any_append]
        simp
      have hall : Hid (xks[i].crit = true → xks.any Ctl.crit = true) := fun hq => List.any_eq_true.2 ⟨_, List.getElem_mem hlt, hq⟩
      obtain ⟨⟨xo, xc, xv, xh⟩, hx⟩ : ∃ x, xks[i] = x := ⟨_, rfl⟩
      rw [hx] at h0 htk hall
      have d1 : wr.cell? ⟨b, off + i * 4 + 1, none⟩ = some (.bool xc) := h0 1 (by omega)
      have hlt' : Hid (i < xks.length) := hlt
      dsimp only at htk hall
      clear hx hlt h0
      cases xc with
      | false =>
        go_wp2_with fail
        go_roundw
        case rel => exact ⟨i + 1, hlt'.out, by simp, by unfold Hid; rw [htk.out, hI'.out]; exact ⟨rfl, trivial⟩⟩
        case measure => have := hlt'.out; simp [intOf]; omega
      | true =>
        have hc : Hid (xks.any Ctl.crit = true) := hall.out rfl
        go_wp2_with (first | (refine load_req rfl _ rfl w.heap.size rfl p rfl ?_) | (go_at_call 11; refine (hrow.out _ _).mono ?_; rintro e w1 ⟨rfl, hb1⟩; have q1 := q.below hb1) | (refine store_t info_rep rfl _ _ rfl (w.heap.size + 1) #[.int .i64 id, .int .i64 8, .int .i64 12, .string ⟨#[]⟩, .string Tcr, .string ⟨#[]⟩, .slice none 0 0, .string ⟨#[]⟩, .bool false, .slice none 0 0] rfl rfl q1 rfl rfl h1c ?_))
        exact bodyPost_ret (results_ct rfl _ _ _ _ _ rfl (ld_rep (box_row q1) rfl)) rfl ⟨by rw [hc.out]; rfl, below_row (hB'.out.trans (hb1.mono hB'.out.size)) (by omega) _⟩
    · have hie : i = xks.length := by omega
      subst hie
      have hc : Hid (xks.any Ctl.crit = false) := by have := hI'.out; rw [List.take_length] at this; exact this
      have k1 : ¬ (xks.length : Int) < (xks.length : Int) := by omega
      clear hI' h1c
      have h1c : (#[.int .i64 id, .int .i64 8, .int .i64 2, .string ⟨#[]⟩, .string Tns, .string ⟨#[]⟩, .slice none 0 0, .string ⟨#[]⟩, .bool false, .slice none 0 0] : Array Value).all (·.oneCell') = true := by simp [Value.oneCell']
      go_wp2_with (first | (refine load_req rfl _ rfl w.heap.size rfl p rfl ?_) | (go_at_call 11; refine (hrow.out _ _).mono ?_; rintro e w1 ⟨rfl, hb1⟩; have q1 := q.below hb1) | (refine store_t info_rep rfl _ _ rfl (w.heap.size + 1) #[.int .i64 id, .int .i64 8, .int .i64 2, .string ⟨#[]⟩, .string Tns, .string ⟨#[]⟩, .slice none 0 0, .string ⟨#[]⟩, .bool false, .slice none 0 0] rfl rfl q1 rfl rfl h1c ?_))
      exact bodyPost_ret (results_ct rfl _ _ _ _ _ rfl (ld_rep (box_row q1) rfl)) rfl ⟨by rw [hc.out]; rfl, below_row (hB'.out.trans (hb1.mono hB'.out.size)) (by omega) _⟩
theorem rRefusal_any (q : Scl) (L : Lst) (w : World) (hn : L.ks.length ≤ 2932031007317) (h : GRow 4 oV w L.ka L.ks) (hT : KTab w) :
    Calls Tryd.prog 4 #[.agg (rq q L)] w fun e w' => e = .returned (outV q (L.ks.any Ctl.crit)) ∧ Below w.heap.size w w' := by
  obtain ⟨id, kind, ver, bn, meth, pass, mech, cred, hasc, base, scope, deref, slim, tlim, typ, name, nrdn, dold, nsup, hsup, desc, val, hval, aband⟩ := q
  obtain ⟨xfa, xfc, xfs, xaa, xac, xal, xca, xcc, xcs, xta, xtc, xts, xka, xkc, xks⟩ := L
  dsimp only [rq] at *
  by_cases h1 : kind < 0
  · exact rRefLow _ _ _ _ _ _ _ _ _ _ _ _ _ _ _ _ _ _ _ _ _ _ _ _ _ _ _ _ _ _ _ _ _ _ _ _ _ _ _ w hn h hT h1
  · by_cases h2 : 9 < kind
    · exact rRefHigh _ _ _ _ _ _ _ _ _ _ _ _ _ _ _ _ _ _ _ _ _ _ _ _ _ _ _ _ _ _ _ _ _ _ _ _ _ _ _ w hn h hT h2
    · have : kind = 0 ∨ kind = 1 ∨ kind = 2 ∨ kind = 3 ∨ kind = 4 ∨ kind = 5 ∨ kind = 6 ∨ kind = 7 ∨ kind = 8 ∨ kind = 9 := by omega
      clear h1 h2
      rcases this with rfl | rfl | rfl | rfl | rfl | rfl | rfl | rfl | rfl | rfl
      · exact rRef0 _ _ _ _ _ _ _ _ _ _ _ _ _ _ _ _ _ _ _ _ _ _ _ _ _ _ _ _ _ _ _ _ _ _ _ _ _ _ w hn h hT
      · exact rRef1 _ _ _ _ _ _ _ _ _ _ _ _ _ _ _ _ _ _ _ _ _ _ _ _ _ _ _ _ _ _ _ _ _ _ _ _ _ _ w hn h hT
      · exact rRef2 _ _ _ _ _ _ _ _ _ _ _ _ _ _ _ _ _ _ _ _ _ _ _ _ _ _ _ _ _ _ _ _ _ _ _ _ _ _ w hn h hT
      · exact rRef3 _ _ _ _ _ _ _ _ _ _ _ _ _ _ _ _ _ _ _ _ _ _ _ _ _ _ _ _ _ _ _ _ _ _ _ _ _ _ w hn h hT
      · exact rRef4 _ _ _ _ _ _ _ _ _ _ _ _ _ _ _ _ _ _ _ _ _ _ _ _ _ _ _ _ _ _ _ _ _ _ _ _ _ _ w hn h hT
      · exact rRef5 _ _ _ _ _ _ _ _ _ _ _ _ _ _ _ _ _ _ _ _ _ _ _ _ _ _ _ _ _ _ _ _ _ _ _ _ _ _ w hn h hT
      · exact rRef6 _ _ _ _ _ _ _ _ _ _ _ _ _ _ _ _ _ _ _ _ _ _ _ _ _ _ _ _ _ _ _ _ _ _ _ _ _ _ w hn h hT
      · exact rRef7 _ _ _ _ _ _ _ _ _ _ _ _ _ _ _ _ _ _ _ _ _ _ _ _ _ _ _ _ _ _ _ _ _ _ _ _ _ _ w hn h hT
      · exact rRef8 _ _ _ _ _ _ _ _ _ _ _ _ _ _ _ _ _ _ _ _ _ _ _ _ _ _ _ _ _ _ _ _ _ _ _ _ _ _ w hn h hT
      · exact rRef9 _ _ _ _ _ _ _ _ _ _ _ _ _ _ _ _ _ _ _ _ _ _ _ _ _ _ _ _ _ _ _ _ _ _ _ _ _ _ w hn h hT
end Go.Proofs.YtembeinglnojkaaDoor
