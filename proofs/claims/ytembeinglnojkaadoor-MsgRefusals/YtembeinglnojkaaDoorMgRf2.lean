import Derived.Test.YtembeinglnojkaaDoorMgRf1
namespace Go.Proofs.YtembeinglnojkaaDoor
open Go.RowKit
set_option linter.unusedVariables false

/-- The result that a request of an answered kind has whatever the snapshot is. -/
def resU (q : Scl) (crit : Bool) : Option (Int × ByteArray) := if crit = true then some (12, Tcr) else if q.kind = 0 then some (bindR q.ver q.bn q.meth q.pass) else if q.kind = 7 then some (53, Tnc) else if q.kind = 9 then some (2, Tns) else if q.kind = 2 then none else some (53, Tro)
def resV : Option (Int × ByteArray) → Value
  | none => .tuple #[.agg #[.int .i64 0, .string ⟨#[]⟩, .string ⟨#[]⟩], .bool false]
  | some y => .tuple #[.agg #[.int .i64 y.1, .string ⟨#[]⟩, .string y.2], .bool true]
/-- What Refusal answers. -/
def outW (q : Scl) : Option (Int × ByteArray) → Value
  | none => .tuple #[.agg #[.int .i64 0, .int .i64 0, .int .i64 0, .string ⟨#[]⟩, .string ⟨#[]⟩, .string ⟨#[]⟩, .slice none 0 0, .string ⟨#[]⟩, .bool false, .slice none 0 0], .bool false]
  | some y => .tuple #[.agg #[.int .i64 q.id, .int .i64 (rkd q.kind), .int .i64 y.1, .string ⟨#[]⟩, .string y.2, .string ⟨#[]⟩, .slice none 0 0, .string ⟨#[]⟩, .bool false, .slice none 0 0], .bool true]
def outV (q : Scl) (crit : Bool) : Value := if ansd q.kind = true then outW q (resU q crit) else outW q none
set_option maxRecDepth 100000 in
set_option maxHeartbeats 2000000 in
theorem refC (id kind ver meth scope deref slim tlim aband : Int) (bn pass mech cred base name nrdn nsup desc val : ByteArray) (hasc typ dold hsup hval : Bool) (xfa xaa xca xta xka : Option Addr) (xfc xac xcc xtc xkc : Nat) (xfs : List Nod) (xal : List (List UInt8)) (xcs : List Chg) (xts : List Att) (xks : List Ctl) (w : World) (hn : xks.length ≤ 2932031007317) (h : GRow 4 oV w xka xks) (hc : xks.any Ctl.crit = true) :
    Calls Tryd.prog 18 #[.agg #[.int .i64 id, .int .i64 kind, .int .i64 ver, .string bn, .int .i64 meth, .string pass, .string mech, .string cred, .bool hasc, .string base, .int .i64 scope, .int .i64 deref, .int .i64 slim, .int .i64 tlim, .bool typ, .slice xfa xfs.length xfc, .slice xaa xal.length xac, .string name, .slice xca xcs.length xcc, .slice xta xts.length xtc, .string nrdn, .bool dold, .string nsup, .bool hsup, .string desc, .string val, .bool hval, .int .i64 aband, .slice xka xks.length xkc]] w fun e w' => e = .returned (.tuple #[.agg #[.int .i64 12, .string ⟨#[]⟩, .string Tcr], .bool true]) ∧ Below w.heap.size w w' := by
  obtain ⟨wA, hwA⟩ : ∃ W, w.alloc (.cells #[.int .i64 id, .int .i64 kind, .int .i64 ver, .string bn, .int .i64 meth, .string pass, .string mech, .string cred, .bool hasc, .string base, .int .i64 scope, .int .i64 deref, .int .i64 slim, .int .i64 tlim, .bool typ, .slice xfa xfs.length xfc, .slice xaa xal.length xac, .string name, .slice xca xcs.length xcc, .slice xta xts.length xtc, .string nrdn, .bool dold, .string nsup, .bool hsup, .string desc, .string val, .bool hval, .int .i64 aband, .slice xka xks.length xkc] 36) = W := ⟨_, rfl⟩
  obtain ⟨wB, hwB⟩ : ∃ W, wA.alloc (.cells #[.int .i64 0, .string ⟨#[]⟩, .string ⟨#[]⟩] 40) = W := ⟨_, rfl⟩
  have na : wA.heap.size = w.heap.size + 1 := by rw [← hwA]; simp
  have p : Box wB w.heap.size 36 #[.int .i64 id, .int .i64 kind, .int .i64 ver, .string bn, .int .i64 meth, .string pass, .string mech, .string cred, .bool hasc, .string base, .int .i64 scope, .int .i64 deref, .int .i64 slim, .int .i64 tlim, .bool typ, .slice xfa xfs.length xfc, .slice xaa xal.length xac, .string name, .slice xca xcs.length xcc, .slice xta xts.length xtc, .string nrdn, .bool dold, .string nsup, .bool hsup, .string desc, .string val, .bool hval, .int .i64 aband, .slice xka xks.length xkc] := by rw [← hwB]; exact Box.past (by rw [← hwA]; exact Box.new _ _ _) _
  have q : Box wB (w.heap.size + 1) 40 #[.int .i64 0, .string ⟨#[]⟩, .string ⟨#[]⟩] := by rw [← hwB, ← na]; exact Box.new _ _ _
  have hB : Below w.heap.size w wB := by
    rw [← hwB, ← hwA]
    exact ((Below.refl _ _).alloc (Nat.le_refl _) _).alloc (by simp) _
  have hC : Hid (Calls Tryd.prog 25 #[.slice xka xks.length xkc, .func (.func 26) #[] #[]] wB fun e w' => e = .returned (.bool true) ∧ Below wB.heap.size wB w') := by
    have := containsC_any xks xka xkc wB hn (h.below oV_len hB)
    rw [hc] at this
    exact this
  have c28 : wB.cell? ⟨w.heap.size, 28, none⟩ = some (.slice xka xks.length xkc) := (p.cell 28 (by simp)).1
  have hB' : Hid (Below w.heap.size w wB) := hB
  have h1c : (#[.int .i64 12, .string ⟨#[]⟩, .string Tcr] : Array Value).all (·.oneCell') = true := by simp [Value.oneCell']
  clear h hc hn
  go_enter Tryd.func18, Tryd.ntmps18
  go_upto_region 1 with fail
  clear hwA hwB na
  go_wp2_with (first | (go_at_call 25; refine hC.out.mono ?_; rintro e w1 ⟨rfl, hb1⟩; have q1 := q.below hb1; have k1 : w1.cell? ⟨w.heap.size, 1, none⟩ = some (.int .i64 kind) := ((p.below hb1).cell 1 (by simp)).1; clear c28) | (refine store_t info_res rfl _ _ rfl (w.heap.size + 1) #[.int .i64 12, .string ⟨#[]⟩, .string Tcr] rfl rfl q1 rfl rfl h1c ?_))
  exact bodyPost_ret (results_ct rfl _ _ _ _ _ rfl (ld_res (box_row q1) rfl)) rfl ⟨rfl, below_row (hB'.out.trans (hb1.mono hB'.out.size)) (by omega) _⟩
set_option maxRecDepth 100000 in
set_option maxHeartbeats 2000000 in
theorem refK0 (id ver meth scope deref slim tlim aband : Int) (bn pass mech cred base name nrdn nsup desc val : ByteArray) (hasc typ dold hsup hval : Bool) (xfa xaa xca xta xka : Option Addr) (xfc xac xcc xtc xkc : Nat) (xfs : List Nod) (xal : List (List UInt8)) (xcs : List Chg) (xts : List Att) (xks : List Ctl) (w : World) (hn : xks.length ≤ 2932031007317) (h : GRow 4 oV w xka xks) (hc : xks.any Ctl.crit = false) :
    Calls Tryd.prog 18 #[.agg #[.int .i64 id, .int .i64 0, .int .i64 ver, .string bn, .int .i64 meth, .string pass, .string mech, .string cred, .bool hasc, .string base, .int .i64 scope, .int .i64 deref, .int .i64 slim, .int .i64 tlim, .bool typ, .slice xfa xfs.length xfc, .slice xaa xal.length xac, .string name, .slice xca xcs.length xcc, .slice xta xts.length xtc, .string nrdn, .bool dold, .string nsup, .bool hsup, .string desc, .string val, .bool hval, .int .i64 aband, .slice xka xks.length xkc]] w fun e w' => e = .returned (.tuple #[.agg #[.int .i64 (bindR ver bn meth pass).1, .string ⟨#[]⟩, .string (bindR ver bn meth pass).2], .bool true]) ∧ Below w.heap.size w w' := by
  obtain ⟨wA, hwA⟩ : ∃ W, w.alloc (.cells #[.int .i64 id, .int .i64 0, .int .i64 ver, .string bn, .int .i64 meth, .string pass, .string mech, .string cred, .bool hasc, .string base, .int .i64 scope, .int .i64 deref, .int .i64 slim, .int .i64 tlim, .bool typ, .slice xfa xfs.length xfc, .slice xaa xal.length xac, .string name, .slice xca xcs.length xcc, .slice xta xts.length xtc, .string nrdn, .bool dold, .string nsup, .bool hsup, .string desc, .string val, .bool hval, .int .i64 aband, .slice xka xks.length xkc] 36) = W := ⟨_, rfl⟩
  obtain ⟨wB, hwB⟩ : ∃ W, wA.alloc (.cells #[.int .i64 0, .string ⟨#[]⟩, .string ⟨#[]⟩] 40) = W := ⟨_, rfl⟩
  have na : wA.heap.size = w.heap.size + 1 := by rw [← hwA]; simp
  have p : Box wB w.heap.size 36 #[.int .i64 id, .int .i64 0, .int .i64 ver, .string bn, .int .i64 meth, .string pass, .string mech, .string cred, .bool hasc, .string base, .int .i64 scope, .int .i64 deref, .int .i64 slim, .int .i64 tlim, .bool typ, .slice xfa xfs.length xfc, .slice xaa xal.length xac, .string name, .slice xca xcs.length xcc, .slice xta xts.length xtc, .string nrdn, .bool dold, .string nsup, .bool hsup, .string desc, .string val, .bool hval, .int .i64 aband, .slice xka xks.length xkc] := by rw [← hwB]; exact Box.past (by rw [← hwA]; exact Box.new _ _ _) _
  have q : Box wB (w.heap.size + 1) 40 #[.int .i64 0, .string ⟨#[]⟩, .string ⟨#[]⟩] := by rw [← hwB, ← na]; exact Box.new _ _ _
  have hB : Below w.heap.size w wB := by
    rw [← hwB, ← hwA]
    exact ((Below.refl _ _).alloc (Nat.le_refl _) _).alloc (by simp) _
  have hC : Hid (Calls Tryd.prog 25 #[.slice xka xks.length xkc, .func (.func 26) #[] #[]] wB fun e w' => e = .returned (.bool false) ∧ Below wB.heap.size wB w') := by
    have := containsC_any xks xka xkc wB hn (h.below oV_len hB)
    rw [hc] at this
    exact this
  have c28 : wB.cell? ⟨w.heap.size, 28, none⟩ = some (.slice xka xks.length xkc) := (p.cell 28 (by simp)).1
  have hB' : Hid (Below w.heap.size w wB) := hB
  have h1c : (#[.int .i64 (bindR ver bn meth pass).1, .string ⟨#[]⟩, .string (bindR ver bn meth pass).2] : Array Value).all (·.oneCell') = true := by simp [Value.oneCell']
  clear h hc hn
  go_enter Tryd.func18, Tryd.ntmps18
  go_upto_region 1 with fail
  clear hwA hwB na
  go_wp2_with (first | (go_at_call 25; refine hC.out.mono ?_; rintro e w1 ⟨rfl, hb1⟩; have q1 := q.below hb1; have k1 : w1.cell? ⟨w.heap.size, 1, none⟩ = some (.int .i64 0) := ((p.below hb1).cell 1 (by simp)).1; clear c28; have k2 : w1.cell? ⟨w.heap.size, 2, none⟩ = some (.int .i64 ver) := ((p.below hb1).cell 2 (by simp)).1; have k3 : w1.cell? ⟨w.heap.size, 3, none⟩ = some (.string bn) := ((p.below hb1).cell 3 (by simp)).1; have k4 : w1.cell? ⟨w.heap.size, 4, none⟩ = some (.int .i64 meth) := ((p.below hb1).cell 4 (by simp)).1; have k5 : w1.cell? ⟨w.heap.size, 5, none⟩ = some (.string pass) := ((p.below hb1).cell 5 (by simp)).1; have k6 : w1.cell? ⟨w.heap.size, 6, none⟩ = some (.string mech) := ((p.below hb1).cell 6 (by simp)).1; have k7 : w1.cell? ⟨w.heap.size, 7, none⟩ = some (.string cred) := ((p.below hb1).cell 7 (by simp)).1; have k8 : w1.cell? ⟨w.heap.size, 8, none⟩ = some (.bool hasc) := ((p.below hb1).cell 8 (by simp)).1) | (go_at_call 27; refine (bindResult_any ver bn meth pass mech cred hasc w1).mono ?_; rintro e w2 ⟨rfl, hb2⟩; have q2 := q1.below hb2) | (refine store_t info_res rfl _ _ rfl (w.heap.size + 1) #[.int .i64 (bindR ver bn meth pass).1, .string ⟨#[]⟩, .string (bindR ver bn meth pass).2] rfl rfl q2 rfl rfl h1c ?_))
  exact bodyPost_ret (results_ct rfl _ _ _ _ _ rfl (ld_res (box_row q2) rfl)) rfl ⟨rfl, below_row ((hB'.out.trans (hb1.mono hB'.out.size)).trans (hb2.mono (by have := hb1.size; have := hB'.out.size; omega))) (by omega) _⟩
set_option maxRecDepth 100000 in
set_option maxHeartbeats 2000000 in
theorem refK2 (id ver meth scope deref slim tlim aband : Int) (bn pass mech cred base name nrdn nsup desc val : ByteArray) (hasc typ dold hsup hval : Bool) (xfa xaa xca xta xka : Option Addr) (xfc xac xcc xtc xkc : Nat) (xfs : List Nod) (xal : List (List UInt8)) (xcs : List Chg) (xts : List Att) (xks : List Ctl) (w : World) (hn : xks.length ≤ 2932031007317) (h : GRow 4 oV w xka xks) (hc : xks.any Ctl.crit = false) :
    Calls Tryd.prog 18 #[.agg #[.int .i64 id, .int .i64 2, .int .i64 ver, .string bn, .int .i64 meth, .string pass, .string mech, .string cred, .bool hasc, .string base, .int .i64 scope, .int .i64 deref, .int .i64 slim, .int .i64 tlim, .bool typ, .slice xfa xfs.length xfc, .slice xaa xal.length xac, .string name, .slice xca xcs.length xcc, .slice xta xts.length xtc, .string nrdn, .bool dold, .string nsup, .bool hsup, .string desc, .string val, .bool hval, .int .i64 aband, .slice xka xks.length xkc]] w fun e w' => e = .returned (.tuple #[.agg #[.int .i64 0, .string ⟨#[]⟩, .string ⟨#[]⟩], .bool false]) ∧ Below w.heap.size w w' := by
  obtain ⟨wA, hwA⟩ : ∃ W, w.alloc (.cells #[.int .i64 id, .int .i64 2, .int .i64 ver, .string bn, .int .i64 meth, .string pass, .string mech, .string cred, .bool hasc, .string base, .int .i64 scope, .int .i64 deref, .int .i64 slim, .int .i64 tlim, .bool typ, .slice xfa xfs.length xfc, .slice xaa xal.length xac, .string name, .slice xca xcs.length xcc, .slice xta xts.length xtc, .string nrdn, .bool dold, .string nsup, .bool hsup, .string desc, .string val, .bool hval, .int .i64 aband, .slice xka xks.length xkc] 36) = W := ⟨_, rfl⟩
  obtain ⟨wB, hwB⟩ : ∃ W, wA.alloc (.cells #[.int .i64 0, .string ⟨#[]⟩, .string ⟨#[]⟩] 40) = W := ⟨_, rfl⟩
  have na : wA.heap.size = w.heap.size + 1 := by rw [← hwA]; simp
  have p : Box wB w.heap.size 36 #[.int .i64 id, .int .i64 2, .int .i64 ver, .string bn, .int .i64 meth, .string pass, .string mech, .string cred, .bool hasc, .string base, .int .i64 scope, .int .i64 deref, .int .i64 slim, .int .i64 tlim, .bool typ, .slice xfa xfs.length xfc, .slice xaa xal.length xac, .string name, .slice xca xcs.length xcc, .slice xta xts.length xtc, .string nrdn, .bool dold, .string nsup, .bool hsup, .string desc, .string val, .bool hval, .int .i64 aband, .slice xka xks.length xkc] := by rw [← hwB]; exact Box.past (by rw [← hwA]; exact Box.new _ _ _) _
  have q : Box wB (w.heap.size + 1) 40 #[.int .i64 0, .string ⟨#[]⟩, .string ⟨#[]⟩] := by rw [← hwB, ← na]; exact Box.new _ _ _
  have hB : Below w.heap.size w wB := by
    rw [← hwB, ← hwA]
    exact ((Below.refl _ _).alloc (Nat.le_refl _) _).alloc (by simp) _
  have hC : Hid (Calls Tryd.prog 25 #[.slice xka xks.length xkc, .func (.func 26) #[] #[]] wB fun e w' => e = .returned (.bool false) ∧ Below wB.heap.size wB w') := by
    have := containsC_any xks xka xkc wB hn (h.below oV_len hB)
    rw [hc] at this
    exact this
  have c28 : wB.cell? ⟨w.heap.size, 28, none⟩ = some (.slice xka xks.length xkc) := (p.cell 28 (by simp)).1
  have hB' : Hid (Below w.heap.size w wB) := hB
  have h1c : (#[.int .i64 0, .string ⟨#[]⟩, .string ⟨#[]⟩] : Array Value).all (·.oneCell') = true := by simp [Value.oneCell']
  clear h hc hn
  go_enter Tryd.func18, Tryd.ntmps18
  go_upto_region 1 with fail
  clear hwA hwB na
  go_wp2_with (first | (go_at_call 25; refine hC.out.mono ?_; rintro e w1 ⟨rfl, hb1⟩; have q1 := q.below hb1; have k1 : w1.cell? ⟨w.heap.size, 1, none⟩ = some (.int .i64 2) := ((p.below hb1).cell 1 (by simp)).1; clear c28) | (refine store_t info_res rfl _ _ rfl (w.heap.size + 1) #[.int .i64 0, .string ⟨#[]⟩, .string ⟨#[]⟩] rfl rfl q1 rfl rfl h1c ?_))
  exact bodyPost_ret (results_ct rfl _ _ _ _ _ rfl (ld_res (box_row q1) rfl)) rfl ⟨rfl, below_row (hB'.out.trans (hb1.mono hB'.out.size)) (by omega) _⟩
set_option maxRecDepth 100000 in
set_option maxHeartbeats 2000000 in
theorem refK3 (id ver meth scope deref slim tlim aband : Int) (bn pass mech cred base name nrdn nsup desc val : ByteArray) (hasc typ dold hsup hval : Bool) (xfa xaa xca xta xka : Option Addr) (xfc xac xcc xtc xkc : Nat) (xfs : List Nod) (xal : List (List UInt8)) (xcs : List Chg) (xts : List Att) (xks : List Ctl) (w : World) (hn : xks.length ≤ 2932031007317) (h : GRow 4 oV w xka xks) (hc : xks.any Ctl.crit = false) :
    Calls Tryd.prog 18 #[.agg #[.int .i64 id, .int .i64 3, .int .i64 ver, .string bn, .int .i64 meth, .string pass, .string mech, .string cred, .bool hasc, .string base, .int .i64 scope, .int .i64 deref, .int .i64 slim, .int .i64 tlim, .bool typ, .slice xfa xfs.length xfc, .slice xaa xal.length xac, .string name, .slice xca xcs.length xcc, .slice xta xts.length xtc, .string nrdn, .bool dold, .string nsup, .bool hsup, .string desc, .string val, .bool hval, .int .i64 aband, .slice xka xks.length xkc]] w fun e w' => e = .returned (.tuple #[.agg #[.int .i64 53, .string ⟨#[]⟩, .string Tro], .bool true]) ∧ Below w.heap.size w w' := by
  obtain ⟨wA, hwA⟩ : ∃ W, w.alloc (.cells #[.int .i64 id, .int .i64 3, .int .i64 ver, .string bn, .int .i64 meth, .string pass, .string mech, .string cred, .bool hasc, .string base, .int .i64 scope, .int .i64 deref, .int .i64 slim, .int .i64 tlim, .bool typ, .slice xfa xfs.length xfc, .slice xaa xal.length xac, .string name, .slice xca xcs.length xcc, .slice xta xts.length xtc, .string nrdn, .bool dold, .string nsup, .bool hsup, .string desc, .string val, .bool hval, .int .i64 aband, .slice xka xks.length xkc] 36) = W := ⟨_, rfl⟩
  obtain ⟨wB, hwB⟩ : ∃ W, wA.alloc (.cells #[.int .i64 0, .string ⟨#[]⟩, .string ⟨#[]⟩] 40) = W := ⟨_, rfl⟩
  have na : wA.heap.size = w.heap.size + 1 := by rw [← hwA]; simp
  have p : Box wB w.heap.size 36 #[.int .i64 id, .int .i64 3, .int .i64 ver, .string bn, .int .i64 meth, .string pass, .string mech, .string cred, .bool hasc, .string base, .int .i64 scope, .int .i64 deref, .int .i64 slim, .int .i64 tlim, .bool typ, .slice xfa xfs.length xfc, .slice xaa xal.length xac, .string name, .slice xca xcs.length xcc, .slice xta xts.length xtc, .string nrdn, .bool dold, .string nsup, .bool hsup, .string desc, .string val, .bool hval, .int .i64 aband, .slice xka xks.length xkc] := by rw [← hwB]; exact Box.past (by rw [← hwA]; exact Box.new _ _ _) _
  have q : Box wB (w.heap.size + 1) 40 #[.int .i64 0, .string ⟨#[]⟩, .string ⟨#[]⟩] := by rw [← hwB, ← na]; exact Box.new _ _ _
  have hB : Below w.heap.size w wB := by
    rw [← hwB, ← hwA]
    exact ((Below.refl _ _).alloc (Nat.le_refl _) _).alloc (by simp) _
  have hC : Hid (Calls Tryd.prog 25 #[.slice xka xks.length xkc, .func (.func 26) #[] #[]] wB fun e w' => e = .returned (.bool false) ∧ Below wB.heap.size wB w') := by
    have := containsC_any xks xka xkc wB hn (h.below oV_len hB)
    rw [hc] at this
    exact this
  have c28 : wB.cell? ⟨w.heap.size, 28, none⟩ = some (.slice xka xks.length xkc) := (p.cell 28 (by simp)).1
  have hB' : Hid (Below w.heap.size w wB) := hB
  have h1c : (#[.int .i64 53, .string ⟨#[]⟩, .string Tro] : Array Value).all (·.oneCell') = true := by simp [Value.oneCell']
  clear h hc hn
  go_enter Tryd.func18, Tryd.ntmps18
  go_upto_region 1 with fail
  clear hwA hwB na
  go_wp2_with (first | (go_at_call 25; refine hC.out.mono ?_; rintro e w1 ⟨rfl, hb1⟩; have q1 := q.below hb1; have k1 : w1.cell? ⟨w.heap.size, 1, none⟩ = some (.int .i64 3) := ((p.below hb1).cell 1 (by simp)).1; clear c28) | (refine store_t info_res rfl _ _ rfl (w.heap.size + 1) #[.int .i64 53, .string ⟨#[]⟩, .string Tro] rfl rfl q1 rfl rfl h1c ?_))
  exact bodyPost_ret (results_ct rfl _ _ _ _ _ rfl (ld_res (box_row q1) rfl)) rfl ⟨rfl, below_row (hB'.out.trans (hb1.mono hB'.out.size)) (by omega) _⟩
set_option maxRecDepth 100000 in
set_option maxHeartbeats 2000000 in
theorem refK4 (id ver meth scope deref slim tlim aband : Int) (bn pass mech cred base name nrdn nsup desc val : ByteArray) (hasc typ dold hsup hval : Bool) (xfa xaa xca xta xka : Option Addr) (xfc xac xcc xtc xkc : Nat) (xfs : List Nod) (xal : List (List UInt8)) (xcs : List Chg) (xts : List Att) (xks : List Ctl) (w : World) (hn : xks.length ≤ 2932031007317) (h : GRow 4 oV w xka xks) (hc : xks.any Ctl.crit = false) :
    Calls Tryd.prog 18 #[.agg #[.int .i64 id, .int .i64 4, .int .i64 ver, .string bn, .int .i64 meth, .string pass, .string mech, .string cred, .bool hasc, .string base, .int .i64 scope, .int .i64 deref, .int .i64 slim, .int .i64 tlim, .bool typ, .slice xfa xfs.length xfc, .slice xaa xal.length xac, .string name, .slice xca xcs.length xcc, .slice xta xts.length xtc, .string nrdn, .bool dold, .string nsup, .bool hsup, .string desc, .string val, .bool hval, .int .i64 aband, .slice xka xks.length xkc]] w fun e w' => e = .returned (.tuple #[.agg #[.int .i64 53, .string ⟨#[]⟩, .string Tro], .bool true]) ∧ Below w.heap.size w w' := by
  obtain ⟨wA, hwA⟩ : ∃ W, w.alloc (.cells #[.int .i64 id, .int .i64 4, .int .i64 ver, .string bn, .int .i64 meth, .string pass, .string mech, .string cred, .bool hasc, .string base, .int .i64 scope, .int .i64 deref, .int .i64 slim, .int .i64 tlim, .bool typ, .slice xfa xfs.length xfc, .slice xaa xal.length xac, .string name, .slice xca xcs.length xcc, .slice xta xts.length xtc, .string nrdn, .bool dold, .string nsup, .bool hsup, .string desc, .string val, .bool hval, .int .i64 aband, .slice xka xks.length xkc] 36) = W := ⟨_, rfl⟩
  obtain ⟨wB, hwB⟩ : ∃ W, wA.alloc (.cells #[.int .i64 0, .string ⟨#[]⟩, .string ⟨#[]⟩] 40) = W := ⟨_, rfl⟩
  have na : wA.heap.size = w.heap.size + 1 := by rw [← hwA]; simp
  have p : Box wB w.heap.size 36 #[.int .i64 id, .int .i64 4, .int .i64 ver, .string bn, .int .i64 meth, .string pass, .string mech, .string cred, .bool hasc, .string base, .int .i64 scope, .int .i64 deref, .int .i64 slim, .int .i64 tlim, .bool typ, .slice xfa xfs.length xfc, .slice xaa xal.length xac, .string name, .slice xca xcs.length xcc, .slice xta xts.length xtc, .string nrdn, .bool dold, .string nsup, .bool hsup, .string desc, .string val, .bool hval, .int .i64 aband, .slice xka xks.length xkc] := by rw [← hwB]; exact Box.past (by rw [← hwA]; exact Box.new _ _ _) _
  have q : Box wB (w.heap.size + 1) 40 #[.int .i64 0, .string ⟨#[]⟩, .string ⟨#[]⟩] := by rw [← hwB, ← na]; exact Box.new _ _ _
  have hB : Below w.heap.size w wB := by
    rw [← hwB, ← hwA]
    exact ((Below.refl _ _).alloc (Nat.le_refl _) _).alloc (by simp) _
  have hC : Hid (Calls Tryd.prog 25 #[.slice xka xks.length xkc, .func (.func 26) #[] #[]] wB fun e w' => e = .returned (.bool false) ∧ Below wB.heap.size wB w') := by
    have := containsC_any xks xka xkc wB hn (h.below oV_len hB)
    rw [hc] at this
    exact this
  have c28 : wB.cell? ⟨w.heap.size, 28, none⟩ = some (.slice xka xks.length xkc) := (p.cell 28 (by simp)).1
  have hB' : Hid (Below w.heap.size w wB) := hB
  have h1c : (#[.int .i64 53, .string ⟨#[]⟩, .string Tro] : Array Value).all (·.oneCell') = true := by simp [Value.oneCell']
  clear h hc hn
  go_enter Tryd.func18, Tryd.ntmps18
  go_upto_region 1 with fail
  clear hwA hwB na
  go_wp2_with (first | (go_at_call 25; refine hC.out.mono ?_; rintro e w1 ⟨rfl, hb1⟩; have q1 := q.below hb1; have k1 : w1.cell? ⟨w.heap.size, 1, none⟩ = some (.int .i64 4) := ((p.below hb1).cell 1 (by simp)).1; clear c28) | (refine store_t info_res rfl _ _ rfl (w.heap.size + 1) #[.int .i64 53, .string ⟨#[]⟩, .string Tro] rfl rfl q1 rfl rfl h1c ?_))
  exact bodyPost_ret (results_ct rfl _ _ _ _ _ rfl (ld_res (box_row q1) rfl)) rfl ⟨rfl, below_row (hB'.out.trans (hb1.mono hB'.out.size)) (by omega) _⟩
set_option maxRecDepth 100000 in
set_option maxHeartbeats 2000000 in
theorem refK5 (id ver meth scope deref slim tlim aband : Int) (bn pass mech cred base name nrdn nsup desc val : ByteArray) (hasc typ dold hsup hval : Bool) (xfa xaa xca xta xka : Option Addr) (xfc xac xcc xtc xkc : Nat) (xfs : List Nod) (xal : List (List UInt8)) (xcs : List Chg) (xts : List Att) (xks : List Ctl) (w : World) (hn : xks.length ≤ 2932031007317) (h : GRow 4 oV w xka xks) (hc : xks.any Ctl.crit = false) :
    Calls Tryd.prog 18 #[.agg #[.int .i64 id, .int .i64 5, .int .i64 ver, .string bn, .int .i64 meth, .string pass, .string mech, .string cred, .bool hasc, .string base, .int .i64 scope, .int .i64 deref, .int .i64 slim, .int .i64 tlim, .bool typ, .slice xfa xfs.length xfc, .slice xaa xal.length xac, .string name, .slice xca xcs.length xcc, .slice xta xts.length xtc, .string nrdn, .bool dold, .string nsup, .bool hsup, .string desc, .string val, .bool hval, .int .i64 aband, .slice xka xks.length xkc]] w fun e w' => e = .returned (.tuple #[.agg #[.int .i64 53, .string ⟨#[]⟩, .string Tro], .bool true]) ∧ Below w.heap.size w w' := by
  obtain ⟨wA, hwA⟩ : ∃ W, w.alloc (.cells #[.int .i64 id, .int .i64 5, .int .i64 ver, .string bn, .int .i64 meth, .string pass, .string mech, .string cred, .bool hasc, .string base, .int .i64 scope, .int .i64 deref, .int .i64 slim, .int .i64 tlim, .bool typ, .slice xfa xfs.length xfc, .slice xaa xal.length xac, .string name, .slice xca xcs.length xcc, .slice xta xts.length xtc, .string nrdn, .bool dold, .string nsup, .bool hsup, .string desc, .string val, .bool hval, .int .i64 aband, .slice xka xks.length xkc] 36) = W := ⟨_, rfl⟩
  obtain ⟨wB, hwB⟩ : ∃ W, wA.alloc (.cells #[.int .i64 0, .string ⟨#[]⟩, .string ⟨#[]⟩] 40) = W := ⟨_, rfl⟩
  have na : wA.heap.size = w.heap.size + 1 := by rw [← hwA]; simp
  have p : Box wB w.heap.size 36 #[.int .i64 id, .int .i64 5, .int .i64 ver, .string bn, .int .i64 meth, .string pass, .string mech, .string cred, .bool hasc, .string base, .int .i64 scope, .int .i64 deref, .int .i64 slim, .int .i64 tlim, .bool typ, .slice xfa xfs.length xfc, .slice xaa xal.length xac, .string name, .slice xca xcs.length xcc, .slice xta xts.length xtc, .string nrdn, .bool dold, .string nsup, .bool hsup, .string desc, .string val, .bool hval, .int .i64 aband, .slice xka xks.length xkc] := by rw [← hwB]; exact Box.past (by rw [← hwA]; exact Box.new _ _ _) _
  have q : Box wB (w.heap.size + 1) 40 #[.int .i64 0, .string ⟨#[]⟩, .string ⟨#[]⟩] := by rw [← hwB, ← na]; exact Box.new _ _ _
  have hB : Below w.heap.size w wB := by
    rw [← hwB, ← hwA]
    exact ((Below.refl _ _).alloc (Nat.le_refl _) _).alloc (by simp) _
  have hC : Hid (Calls Tryd.prog 25 #[.slice xka xks.length xkc, .func (.func 26) #[] #[]] wB fun e w' => e = .returned (.bool false) ∧ Below wB.heap.size wB w') := by
    have := containsC_any xks xka xkc wB hn (h.below oV_len hB)
    rw [hc] at this
    exact this
  have c28 : wB.cell? ⟨w.heap.size, 28, none⟩ = some (.slice xka xks.length xkc) := (p.cell 28 (by simp)).1
  have hB' : Hid (Below w.heap.size w wB) := hB
  have h1c : (#[.int .i64 53, .string ⟨#[]⟩, .string Tro] : Array Value).all (·.oneCell') = true := by simp [Value.oneCell']
  clear h hc hn
  go_enter Tryd.func18, Tryd.ntmps18
  go_upto_region 1 with fail
  clear hwA hwB na
  go_wp2_with (first | (go_at_call 25; refine hC.out.mono ?_; rintro e w1 ⟨rfl, hb1⟩; have q1 := q.below hb1; have k1 : w1.cell? ⟨w.heap.size, 1, none⟩ = some (.int .i64 5) := ((p.below hb1).cell 1 (by simp)).1; clear c28) | (refine store_t info_res rfl _ _ rfl (w.heap.size + 1) #[.int .i64 53, .string ⟨#[]⟩, .string Tro] rfl rfl q1 rfl rfl h1c ?_))
  exact bodyPost_ret (results_ct rfl _ _ _ _ _ rfl (ld_res (box_row q1) rfl)) rfl ⟨rfl, below_row (hB'.out.trans (hb1.mono hB'.out.size)) (by omega) _⟩
set_option maxRecDepth 100000 in
set_option maxHeartbeats 2000000 in
theorem refK6 (id ver meth scope deref slim tlim aband : Int) (bn pass mech cred base name nrdn nsup desc val : ByteArray) (hasc typ dold hsup hval : Bool) (xfa xaa xca xta xka : Option Addr) (xfc xac xcc xtc xkc : Nat) (xfs : List Nod) (xal : List (List UInt8)) (xcs : List Chg) (xts : List Att) (xks : List Ctl) (w : World) (hn : xks.length ≤ 2932031007317) (h : GRow 4 oV w xka xks) (hc : xks.any Ctl.crit = false) :
    Calls Tryd.prog 18 #[.agg #[.int .i64 id, .int .i64 6, .int .i64 ver, .string bn, .int .i64 meth, .string pass, .string mech, .string cred, .bool hasc, .string base, .int .i64 scope, .int .i64 deref, .int .i64 slim, .int .i64 tlim, .bool typ, .slice xfa xfs.length xfc, .slice xaa xal.length xac, .string name, .slice xca xcs.length xcc, .slice xta xts.length xtc, .string nrdn, .bool dold, .string nsup, .bool hsup, .string desc, .string val, .bool hval, .int .i64 aband, .slice xka xks.length xkc]] w fun e w' => e = .returned (.tuple #[.agg #[.int .i64 53, .string ⟨#[]⟩, .string Tro], .bool true]) ∧ Below w.heap.size w w' := by
  obtain ⟨wA, hwA⟩ : ∃ W, w.alloc (.cells #[.int .i64 id, .int .i64 6, .int .i64 ver, .string bn, .int .i64 meth, .string pass, .string mech, .string cred, .bool hasc, .string base, .int .i64 scope, .int .i64 deref, .int .i64 slim, .int .i64 tlim, .bool typ, .slice xfa xfs.length xfc, .slice xaa xal.length xac, .string name, .slice xca xcs.length xcc, .slice xta xts.length xtc, .string nrdn, .bool dold, .string nsup, .bool hsup, .string desc, .string val, .bool hval, .int .i64 aband, .slice xka xks.length xkc] 36) = W := ⟨_, rfl⟩
  obtain ⟨wB, hwB⟩ : ∃ W, wA.alloc (.cells #[.int .i64 0, .string ⟨#[]⟩, .string ⟨#[]⟩] 40) = W := ⟨_, rfl⟩
  have na : wA.heap.size = w.heap.size + 1 := by rw [← hwA]; simp
  have p : Box wB w.heap.size 36 #[.int .i64 id, .int .i64 6, .int .i64 ver, .string bn, .int .i64 meth, .string pass, .string mech, .string cred, .bool hasc, .string base, .int .i64 scope, .int .i64 deref, .int .i64 slim, .int .i64 tlim, .bool typ, .slice xfa xfs.length xfc, .slice xaa xal.length xac, .string name, .slice xca xcs.length xcc, .slice xta xts.length xtc, .string nrdn, .bool dold, .string nsup, .bool hsup, .string desc, .string val, .bool hval, .int .i64 aband, .slice xka xks.length xkc] := by rw [← hwB]; exact Box.past (by rw [← hwA]; exact Box.new _ _ _) _
  have q : Box wB (w.heap.size + 1) 40 #[.int .i64 0, .string ⟨#[]⟩, .string ⟨#[]⟩] := by rw [← hwB, ← na]; exact Box.new _ _ _
  have hB : Below w.heap.size w wB := by
    rw [← hwB, ← hwA]
    exact ((Below.refl _ _).alloc (Nat.le_refl _) _).alloc (by simp) _
  have hC : Hid (Calls Tryd.prog 25 #[.slice xka xks.length xkc, .func (.func 26) #[] #[]] wB fun e w' => e = .returned (.bool false) ∧ Below wB.heap.size wB w') := by
    have := containsC_any xks xka xkc wB hn (h.below oV_len hB)
    rw [hc] at this
    exact this
  have c28 : wB.cell? ⟨w.heap.size, 28, none⟩ = some (.slice xka xks.length xkc) := (p.cell 28 (by simp)).1
  have hB' : Hid (Below w.heap.size w wB) := hB
  have h1c : (#[.int .i64 53, .string ⟨#[]⟩, .string Tro] : Array Value).all (·.oneCell') = true := by simp [Value.oneCell']
  clear h hc hn
  go_enter Tryd.func18, Tryd.ntmps18
  go_upto_region 1 with fail
  clear hwA hwB na
  go_wp2_with (first | (go_at_call 25; refine hC.out.mono ?_; rintro e w1 ⟨rfl, hb1⟩; have q1 := q.below hb1; have k1 : w1.cell? ⟨w.heap.size, 1, none⟩ = some (.int .i64 6) := ((p.below hb1).cell 1 (by simp)).1; clear c28) | (refine store_t info_res rfl _ _ rfl (w.heap.size + 1) #[.int .i64 53, .string ⟨#[]⟩, .string Tro] rfl rfl q1 rfl rfl h1c ?_))
  exact bodyPost_ret (results_ct rfl _ _ _ _ _ rfl (ld_res (box_row q1) rfl)) rfl ⟨rfl, below_row (hB'.out.trans (hb1.mono hB'.out.size)) (by omega) _⟩
set_option maxRecDepth 100000 in
set_option maxHeartbeats 2000000 in
theorem refK7 (id ver meth scope deref slim tlim aband : Int) (bn pass mech cred base name nrdn nsup desc val : ByteArray) (hasc typ dold hsup hval : Bool) (xfa xaa xca xta xka : Option Addr) (xfc xac xcc xtc xkc : Nat) (xfs : List Nod) (xal : List (List UInt8)) (xcs : List Chg) (xts : List Att) (xks : List Ctl) (w : World) (hn : xks.length ≤ 2932031007317) (h : GRow 4 oV w xka xks) (hc : xks.any Ctl.crit = false) :
    Calls Tryd.prog 18 #[.agg #[.int .i64 id, .int .i64 7, .int .i64 ver, .string bn, .int .i64 meth, .string pass, .string mech, .string cred, .bool hasc, .string base, .int .i64 scope, .int .i64 deref, .int .i64 slim, .int .i64 tlim, .bool typ, .slice xfa xfs.length xfc, .slice xaa xal.length xac, .string name, .slice xca xcs.length xcc, .slice xta xts.length xtc, .string nrdn, .bool dold, .string nsup, .bool hsup, .string desc, .string val, .bool hval, .int .i64 aband, .slice xka xks.length xkc]] w fun e w' => e = .returned (.tuple #[.agg #[.int .i64 53, .string ⟨#[]⟩, .string Tnc], .bool true]) ∧ Below w.heap.size w w' := by
  obtain ⟨wA, hwA⟩ : ∃ W, w.alloc (.cells #[.int .i64 id, .int .i64 7, .int .i64 ver, .string bn, .int .i64 meth, .string pass, .string mech, .string cred, .bool hasc, .string base, .int .i64 scope, .int .i64 deref, .int .i64 slim, .int .i64 tlim, .bool typ, .slice xfa xfs.length xfc, .slice xaa xal.length xac, .string name, .slice xca xcs.length xcc, .slice xta xts.length xtc, .string nrdn, .bool dold, .string nsup, .bool hsup, .string desc, .string val, .bool hval, .int .i64 aband, .slice xka xks.length xkc] 36) = W := ⟨_, rfl⟩
  obtain ⟨wB, hwB⟩ : ∃ W, wA.alloc (.cells #[.int .i64 0, .string ⟨#[]⟩, .string ⟨#[]⟩] 40) = W := ⟨_, rfl⟩
  have na : wA.heap.size = w.heap.size + 1 := by rw [← hwA]; simp
  have p : Box wB w.heap.size 36 #[.int .i64 id, .int .i64 7, .int .i64 ver, .string bn, .int .i64 meth, .string pass, .string mech, .string cred, .bool hasc, .string base, .int .i64 scope, .int .i64 deref, .int .i64 slim, .int .i64 tlim, .bool typ, .slice xfa xfs.length xfc, .slice xaa xal.length xac, .string name, .slice xca xcs.length xcc, .slice xta xts.length xtc, .string nrdn, .bool dold, .string nsup, .bool hsup, .string desc, .string val, .bool hval, .int .i64 aband, .slice xka xks.length xkc] := by rw [← hwB]; exact Box.past (by rw [← hwA]; exact Box.new _ _ _) _
  have q : Box wB (w.heap.size + 1) 40 #[.int .i64 0, .string ⟨#[]⟩, .string ⟨#[]⟩] := by rw [← hwB, ← na]; exact Box.new _ _ _
  have hB : Below w.heap.size w wB := by
    rw [← hwB, ← hwA]
    exact ((Below.refl _ _).alloc (Nat.le_refl _) _).alloc (by simp) _
  have hC : Hid (Calls Tryd.prog 25 #[.slice xka xks.length xkc, .func (.func 26) #[] #[]] wB fun e w' => e = .returned (.bool false) ∧ Below wB.heap.size wB w') := by
    have := containsC_any xks xka xkc wB hn (h.below oV_len hB)
    rw [hc] at this
    exact this
  have c28 : wB.cell? ⟨w.heap.size, 28, none⟩ = some (.slice xka xks.length xkc) := (p.cell 28 (by simp)).1
  have hB' : Hid (Below w.heap.size w wB) := hB
  have h1c : (#[.int .i64 53, .string ⟨#[]⟩, .string Tnc] : Array Value).all (·.oneCell') = true := by simp [Value.oneCell']
  clear h hc hn
  go_enter Tryd.func18, Tryd.ntmps18
  go_upto_region 1 with fail
  clear hwA hwB na
  go_wp2_with (first | (go_at_call 25; refine hC.out.mono ?_; rintro e w1 ⟨rfl, hb1⟩; have q1 := q.below hb1; have k1 : w1.cell? ⟨w.heap.size, 1, none⟩ = some (.int .i64 7) := ((p.below hb1).cell 1 (by simp)).1; clear c28) | (refine store_t info_res rfl _ _ rfl (w.heap.size + 1) #[.int .i64 53, .string ⟨#[]⟩, .string Tnc] rfl rfl q1 rfl rfl h1c ?_))
  exact bodyPost_ret (results_ct rfl _ _ _ _ _ rfl (ld_res (box_row q1) rfl)) rfl ⟨rfl, below_row (hB'.out.trans (hb1.mono hB'.out.size)) (by omega) _⟩
set_option maxRecDepth 100000 in
set_option maxHeartbeats 2000000 in
theorem refK9 (id ver meth scope deref slim tlim aband : Int) (bn pass mech cred base name nrdn nsup desc val : ByteArray) (hasc typ dold hsup hval : Bool) (xfa xaa xca xta xka : Option Addr) (xfc xac xcc xtc xkc : Nat) (xfs : List Nod) (xal : List (List UInt8)) (xcs : List Chg) (xts : List Att) (xks : List Ctl) (w : World) (hn : xks.length ≤ 2932031007317) (h : GRow 4 oV w xka xks) (hc : xks.any Ctl.crit = false) :
    Calls Tryd.prog 18 #[.agg #[.int .i64 id, .int .i64 9, .int .i64 ver, .string bn, .int .i64 meth, .string pass, .string mech, .string cred, .bool hasc, .string base, .int .i64 scope, .int .i64 deref, .int .i64 slim, .int .i64 tlim, .bool typ, .slice xfa xfs.length xfc, .slice xaa xal.length xac, .string name, .slice xca xcs.length xcc, .slice xta xts.length xtc, .string nrdn, .bool dold, .string nsup, .bool hsup, .string desc, .string val, .bool hval, .int .i64 aband, .slice xka xks.length xkc]] w fun e w' => e = .returned (.tuple #[.agg #[.int .i64 2, .string ⟨#[]⟩, .string Tns], .bool true]) ∧ Below w.heap.size w w' := by
  obtain ⟨wA, hwA⟩ : ∃ W, w.alloc (.cells #[.int .i64 id, .int .i64 9, .int .i64 ver, .string bn, .int .i64 meth, .string pass, .string mech, .string cred, .bool hasc, .string base, .int .i64 scope, .int .i64 deref, .int .i64 slim, .int .i64 tlim, .bool typ, .slice xfa xfs.length xfc, .slice xaa xal.length xac, .string name, .slice xca xcs.length xcc, .slice xta xts.length xtc, .string nrdn, .bool dold, .string nsup, .bool hsup, .string desc, .string val, .bool hval, .int .i64 aband, .slice xka xks.length xkc] 36) = W := ⟨_, rfl⟩
  obtain ⟨wB, hwB⟩ : ∃ W, wA.alloc (.cells #[.int .i64 0, .string ⟨#[]⟩, .string ⟨#[]⟩] 40) = W := ⟨_, rfl⟩
  have na : wA.heap.size = w.heap.size + 1 := by rw [← hwA]; simp
  have p : Box wB w.heap.size 36 #[.int .i64 id, .int .i64 9, .int .i64 ver, .string bn, .int .i64 meth, .string pass, .string mech, .string cred, .bool hasc, .string base, .int .i64 scope, .int .i64 deref, .int .i64 slim, .int .i64 tlim, .bool typ, .slice xfa xfs.length xfc, .slice xaa xal.length xac, .string name, .slice xca xcs.length xcc, .slice xta xts.length xtc, .string nrdn, .bool dold, .string nsup, .bool hsup, .string desc, .string val, .bool hval, .int .i64 aband, .slice xka xks.length xkc] := by rw [← hwB]; exact Box.past (by rw [← hwA]; exact Box.new _ _ _) _
  have q : Box wB (w.heap.size + 1) 40 #[.int .i64 0, .string ⟨#[]⟩, .string ⟨#[]⟩] := by rw [← hwB, ← na]; exact Box.new _ _ _
  have hB : Below w.heap.size w wB := by
    rw [← hwB, ← hwA]
    exact ((Below.refl _ _).alloc (Nat.le_refl _) _).alloc (by simp) _
  have hC : Hid (Calls Tryd.prog 25 #[.slice xka xks.length xkc, .func (.func 26) #[] #[]] wB fun e w' => e = .returned (.bool false) ∧ Below wB.heap.size wB w') := by
    have := containsC_any xks xka xkc wB hn (h.below oV_len hB)
    rw [hc] at this
    exact this
  have c28 : wB.cell? ⟨w.heap.size, 28, none⟩ = some (.slice xka xks.length xkc) := (p.cell 28 (by simp)).1
  have hB' : Hid (Below w.heap.size w wB) := hB
  have h1c : (#[.int .i64 2, .string ⟨#[]⟩, .string Tns] : Array Value).all (·.oneCell') = true := by simp [Value.oneCell']
  clear h hc hn
  go_enter Tryd.func18, Tryd.ntmps18
  go_upto_region 1 with fail
  clear hwA hwB na
  go_wp2_with (first | (go_at_call 25; refine hC.out.mono ?_; rintro e w1 ⟨rfl, hb1⟩; have q1 := q.below hb1; have k1 : w1.cell? ⟨w.heap.size, 1, none⟩ = some (.int .i64 9) := ((p.below hb1).cell 1 (by simp)).1; clear c28) | (refine store_t info_res rfl _ _ rfl (w.heap.size + 1) #[.int .i64 2, .string ⟨#[]⟩, .string Tns] rfl rfl q1 rfl rfl h1c ?_))
  exact bodyPost_ret (results_ct rfl _ _ _ _ _ rfl (ld_res (box_row q1) rfl)) rfl ⟨rfl, below_row (hB'.out.trans (hb1.mono hB'.out.size)) (by omega) _⟩
theorem kinds_of {k : Int} (h : ansd k = true) : k = 0 ∨ k = 2 ∨ k = 3 ∨ k = 4 ∨ k = 5 ∨ k = 6 ∨ k = 7 ∨ k = 9 := by
  have h2 := of_decide_eq_true h
  omega
theorem refusal_any (q : Scl) (L : Lst) (w : World) (hn : L.ks.length ≤ 2932031007317) (h : GRow 4 oV w L.ka L.ks) (ha : ansd q.kind = true) :
    Calls Tryd.prog 18 #[.agg (rq q L)] w fun e w' => e = .returned (resV (resU q (L.ks.any Ctl.crit))) ∧ Below w.heap.size w w' := by
  obtain ⟨id, kind, ver, bn, meth, pass, mech, cred, hasc, base, scope, deref, slim, tlim, typ, name, nrdn, dold, nsup, hsup, desc, val, hval, aband⟩ := q
  obtain ⟨xfa, xfc, xfs, xaa, xac, xal, xca, xcc, xcs, xta, xtc, xts, xka, xkc, xks⟩ := L
  dsimp only [rq] at *
  cases hc : xks.any Ctl.crit with
  | true => exact refC _ _ _ _ _ _ _ _ _ _ _ _ _ _ _ _ _ _ _ _ _ _ _ _ _ _ _ _ _ _ _ _ _ _ _ _ _ _ _ w hn h hc
  | false =>
    rcases kinds_of ha with rfl | rfl | rfl | rfl | rfl | rfl | rfl | rfl
    · exact refK0 _ _ _ _ _ _ _ _ _ _ _ _ _ _ _ _ _ _ _ _ _ _ _ _ _ _ _ _ _ _ _ _ _ _ _ _ _ _ w hn h hc
    · exact refK2 _ _ _ _ _ _ _ _ _ _ _ _ _ _ _ _ _ _ _ _ _ _ _ _ _ _ _ _ _ _ _ _ _ _ _ _ _ _ w hn h hc
    · exact refK3 _ _ _ _ _ _ _ _ _ _ _ _ _ _ _ _ _ _ _ _ _ _ _ _ _ _ _ _ _ _ _ _ _ _ _ _ _ _ w hn h hc
    · exact refK4 _ _ _ _ _ _ _ _ _ _ _ _ _ _ _ _ _ _ _ _ _ _ _ _ _ _ _ _ _ _ _ _ _ _ _ _ _ _ w hn h hc
    · exact refK5 _ _ _ _ _ _ _ _ _ _ _ _ _ _ _ _ _ _ _ _ _ _ _ _ _ _ _ _ _ _ _ _ _ _ _ _ _ _ w hn h hc
    · exact refK6 _ _ _ _ _ _ _ _ _ _ _ _ _ _ _ _ _ _ _ _ _ _ _ _ _ _ _ _ _ _ _ _ _ _ _ _ _ _ w hn h hc
    · exact refK7 _ _ _ _ _ _ _ _ _ _ _ _ _ _ _ _ _ _ _ _ _ _ _ _ _ _ _ _ _ _ _ _ _ _ _ _ _ _ w hn h hc
    · exact refK9 _ _ _ _ _ _ _ _ _ _ _ _ _ _ _ _ _ _ _ _ _ _ _ _ _ _ _ _ _ _ _ _ _ _ _ _ _ _ w hn h hc
set_option maxRecDepth 100000 in
set_option maxHeartbeats 2000000 in
theorem mRefNo (id kind ver meth scope deref slim tlim aband : Int) (bn pass mech cred base name nrdn nsup desc val : ByteArray) (hasc typ dold hsup hval : Bool) (xfa xaa xca xta xka : Option Addr) (xfc xac xcc xtc xkc : Nat) (xfs : List Nod) (xal : List (List UInt8)) (xcs : List Chg) (xts : List Att) (xks : List Ctl) (w : World) (hn : xks.length ≤ 2932031007317) (h : GRow 4 oV w xka xks) (ha : ansd kind = false) :
    Calls Tryd.prog 6 #[.agg #[.int .i64 id, .int .i64 kind, .int .i64 ver, .string bn, .int .i64 meth, .string pass, .string mech, .string cred, .bool hasc, .string base, .int .i64 scope, .int .i64 deref, .int .i64 slim, .int .i64 tlim, .bool typ, .slice xfa xfs.length xfc, .slice xaa xal.length xac, .string name, .slice xca xcs.length xcc, .slice xta xts.length xtc, .string nrdn, .bool dold, .string nsup, .bool hsup, .string desc, .string val, .bool hval, .int .i64 aband, .slice xka xks.length xkc]] w fun e w' => e = .returned (.tuple #[.agg #[.int .i64 0, .int .i64 0, .int .i64 0, .string ⟨#[]⟩, .string ⟨#[]⟩, .string ⟨#[]⟩, .slice none 0 0, .string ⟨#[]⟩, .bool false, .slice none 0 0], .bool false]) ∧ Below w.heap.size w w' := by
  obtain ⟨wA, hwA⟩ : ∃ W, w.alloc (.cells #[.int .i64 id, .int .i64 kind, .int .i64 ver, .string bn, .int .i64 meth, .string pass, .string mech, .string cred, .bool hasc, .string base, .int .i64 scope, .int .i64 deref, .int .i64 slim, .int .i64 tlim, .bool typ, .slice xfa xfs.length xfc, .slice xaa xal.length xac, .string name, .slice xca xcs.length xcc, .slice xta xts.length xtc, .string nrdn, .bool dold, .string nsup, .bool hsup, .string desc, .string val, .bool hval, .int .i64 aband, .slice xka xks.length xkc] 36) = W := ⟨_, rfl⟩
  obtain ⟨wB, hwB⟩ : ∃ W, wA.alloc (.cells #[.int .i64 0, .int .i64 0, .int .i64 0, .string ⟨#[]⟩, .string ⟨#[]⟩, .string ⟨#[]⟩, .slice none 0 0, .string ⟨#[]⟩, .bool false, .slice none 0 0] 42) = W := ⟨_, rfl⟩
  have na : wA.heap.size = w.heap.size + 1 := by rw [← hwA]; simp
  have p : Box wB w.heap.size 36 #[.int .i64 id, .int .i64 kind, .int .i64 ver, .string bn, .int .i64 meth, .string pass, .string mech, .string cred, .bool hasc, .string base, .int .i64 scope, .int .i64 deref, .int .i64 slim, .int .i64 tlim, .bool typ, .slice xfa xfs.length xfc, .slice xaa xal.length xac, .string name, .slice xca xcs.length xcc, .slice xta xts.length xtc, .string nrdn, .bool dold, .string nsup, .bool hsup, .string desc, .string val, .bool hval, .int .i64 aband, .slice xka xks.length xkc] := by rw [← hwB]; exact Box.past (by rw [← hwA]; exact Box.new _ _ _) _
  have q : Box wB (w.heap.size + 1) 42 #[.int .i64 0, .int .i64 0, .int .i64 0, .string ⟨#[]⟩, .string ⟨#[]⟩, .string ⟨#[]⟩, .slice none 0 0, .string ⟨#[]⟩, .bool false, .slice none 0 0] := by rw [← hwB, ← na]; exact Box.new _ _ _
  have hB : Below w.heap.size w wB := by
    rw [← hwB, ← hwA]
    exact ((Below.refl _ _).alloc (Nat.le_refl _) _).alloc (by simp) _
  have hA : Hid (Calls Tryd.prog 17 #[.int .i64 kind] wB fun e w' => e = .returned (.tuple #[.int .i64 (rkd kind), .bool false]) ∧ wB = w') := by
    have := answerTo_any kind wB
    rw [ha] at this
    exact this
  have c1 : wB.cell? ⟨w.heap.size, 1, none⟩ = some (.int .i64 kind) := (p.cell 1 (by simp)).1
  have hB' : Hid (Below w.heap.size w wB) := hB
  have h1c : (#[.int .i64 0, .int .i64 0, .int .i64 0, .string ⟨#[]⟩, .string ⟨#[]⟩, .string ⟨#[]⟩, .slice none 0 0, .string ⟨#[]⟩, .bool false, .slice none 0 0] : Array Value).all (·.oneCell') = true := by simp [Value.oneCell']
  clear h hn ha
  generalize rkd kind = kd at *
  go_enter Tryd.func6, Tryd.ntmps6
  go_upto_region 1 with fail
  clear hwA hwB na
  go_wp2_with (first | (go_at_call 17; refine hA.out.mono ?_; rintro e w0 ⟨rfl, rfl⟩) | (refine store_t info_rep rfl _ _ rfl (w.heap.size + 1) #[.int .i64 0, .int .i64 0, .int .i64 0, .string ⟨#[]⟩, .string ⟨#[]⟩, .string ⟨#[]⟩, .slice none 0 0, .string ⟨#[]⟩, .bool false, .slice none 0 0] rfl rfl q rfl rfl h1c ?_))
  exact bodyPost_ret (results_ct rfl _ _ _ _ _ rfl (ld_rep (box_row q) rfl)) rfl ⟨rfl, below_row hB'.out (by omega) _⟩
set_option maxRecDepth 100000 in
set_option maxHeartbeats 2000000 in
theorem mRefSome (id kind ver meth scope deref slim tlim aband : Int) (bn pass mech cred base name nrdn nsup desc val : ByteArray) (hasc typ dold hsup hval : Bool) (xfa xaa xca xta xka : Option Addr) (xfc xac xcc xtc xkc : Nat) (xfs : List Nod) (xal : List (List UInt8)) (xcs : List Chg) (xts : List Att) (xks : List Ctl) (w : World) (hn : xks.length ≤ 2932031007317) (h : GRow 4 oV w xka xks) (c : Int) (t : ByteArray) (ha : ansd kind = true) (hr : resU ⟨id, kind, ver, bn, meth, pass, mech, cred, hasc, base, scope, deref, slim, tlim, typ, name, nrdn, dold, nsup, hsup, desc, val, hval, aband⟩ (xks.any Ctl.crit) = some (c, t)) :
    Calls Tryd.prog 6 #[.agg #[.int .i64 id, .int .i64 kind, .int .i64 ver, .string bn, .int .i64 meth, .string pass, .string mech, .string cred, .bool hasc, .string base, .int .i64 scope, .int .i64 deref, .int .i64 slim, .int .i64 tlim, .bool typ, .slice xfa xfs.length xfc, .slice xaa xal.length xac, .string name, .slice xca xcs.length xcc, .slice xta xts.length xtc, .string nrdn, .bool dold, .string nsup, .bool hsup, .string desc, .string val, .bool hval, .int .i64 aband, .slice xka xks.length xkc]] w fun e w' => e = .returned (.tuple #[.agg #[.int .i64 id, .int .i64 (rkd kind), .int .i64 c, .string ⟨#[]⟩, .string t, .string ⟨#[]⟩, .slice none 0 0, .string ⟨#[]⟩, .bool false, .slice none 0 0], .bool true]) ∧ Below w.heap.size w w' := by
  obtain ⟨wA, hwA⟩ : ∃ W, w.alloc (.cells #[.int .i64 id, .int .i64 kind, .int .i64 ver, .string bn, .int .i64 meth, .string pass, .string mech, .string cred, .bool hasc, .string base, .int .i64 scope, .int .i64 deref, .int .i64 slim, .int .i64 tlim, .bool typ, .slice xfa xfs.length xfc, .slice xaa xal.length xac, .string name, .slice xca xcs.length xcc, .slice xta xts.length xtc, .string nrdn, .bool dold, .string nsup, .bool hsup, .string desc, .string val, .bool hval, .int .i64 aband, .slice xka xks.length xkc] 36) = W := ⟨_, rfl⟩
  obtain ⟨wB, hwB⟩ : ∃ W, wA.alloc (.cells #[.int .i64 0, .int .i64 0, .int .i64 0, .string ⟨#[]⟩, .string ⟨#[]⟩, .string ⟨#[]⟩, .slice none 0 0, .string ⟨#[]⟩, .bool false, .slice none 0 0] 42) = W := ⟨_, rfl⟩
  have na : wA.heap.size = w.heap.size + 1 := by rw [← hwA]; simp
  have p : Box wB w.heap.size 36 #[.int .i64 id, .int .i64 kind, .int .i64 ver, .string bn, .int .i64 meth, .string pass, .string mech, .string cred, .bool hasc, .string base, .int .i64 scope, .int .i64 deref, .int .i64 slim, .int .i64 tlim, .bool typ, .slice xfa xfs.length xfc, .slice xaa xal.length xac, .string name, .slice xca xcs.length xcc, .slice xta xts.length xtc, .string nrdn, .bool dold, .string nsup, .bool hsup, .string desc, .string val, .bool hval, .int .i64 aband, .slice xka xks.length xkc] := by rw [← hwB]; exact Box.past (by rw [← hwA]; exact Box.new _ _ _) _
  have q : Box wB (w.heap.size + 1) 42 #[.int .i64 0, .int .i64 0, .int .i64 0, .string ⟨#[]⟩, .string ⟨#[]⟩, .string ⟨#[]⟩, .slice none 0 0, .string ⟨#[]⟩, .bool false, .slice none 0 0] := by rw [← hwB, ← na]; exact Box.new _ _ _
  have hB : Below w.heap.size w wB := by
    rw [← hwB, ← hwA]
    exact ((Below.refl _ _).alloc (Nat.le_refl _) _).alloc (by simp) _
  have hA : Hid (Calls Tryd.prog 17 #[.int .i64 kind] wB fun e w' => e = .returned (.tuple #[.int .i64 (rkd kind), .bool true]) ∧ wB = w') := by
    have := answerTo_any kind wB
    rw [ha] at this
    exact this
  have hR : Hid (Calls Tryd.prog 18 #[.agg #[.int .i64 id, .int .i64 kind, .int .i64 ver, .string bn, .int .i64 meth, .string pass, .string mech, .string cred, .bool hasc, .string base, .int .i64 scope, .int .i64 deref, .int .i64 slim, .int .i64 tlim, .bool typ, .slice xfa xfs.length xfc, .slice xaa xal.length xac, .string name, .slice xca xcs.length xcc, .slice xta xts.length xtc, .string nrdn, .bool dold, .string nsup, .bool hsup, .string desc, .string val, .bool hval, .int .i64 aband, .slice xka xks.length xkc]] wB fun e w' => e = .returned (.tuple #[.agg #[.int .i64 c, .string ⟨#[]⟩, .string t], .bool true]) ∧ Below wB.heap.size wB w') := by
    have := refusal_any ⟨id, kind, ver, bn, meth, pass, mech, cred, hasc, base, scope, deref, slim, tlim, typ, name, nrdn, dold, nsup, hsup, desc, val, hval, aband⟩ ⟨xfa, xfc, xfs, xaa, xac, xal, xca, xcc, xcs, xta, xtc, xts, xka, xkc, xks⟩ wB hn (h.below oV_len hB) ha
    rw [hr] at this
    exact this
  have c1 : wB.cell? ⟨w.heap.size, 1, none⟩ = some (.int .i64 kind) := (p.cell 1 (by simp)).1
  have hB' : Hid (Below w.heap.size w wB) := hB
  have h1c : (#[.int .i64 id, .int .i64 (rkd kind), .int .i64 c, .string ⟨#[]⟩, .string t, .string ⟨#[]⟩, .slice none 0 0, .string ⟨#[]⟩, .bool false, .slice none 0 0] : Array Value).all (·.oneCell') = true := by simp [Value.oneCell']
  clear h hn ha hr
  generalize rkd kind = kd at *
  go_enter Tryd.func6, Tryd.ntmps6
  go_upto_region 1 with fail
  clear hwA hwB na
  go_upto_region 4 with (go_at_call 17; refine hA.out.mono ?_; rintro e w0 ⟨rfl, rfl⟩)
  clear hA c1
  go_upto_region 5 with (first | (refine load_req rfl _ rfl w.heap.size rfl p rfl ?_) | (go_at_call 18; refine hR.out.mono ?_; rintro e w1 ⟨rfl, hb1⟩; obtain ⟨W2, hW2⟩ : ∃ W, w1.alloc (.cells #[.int .i64 c, .string ⟨#[]⟩, .string t] 40) = W := ⟨_, rfl⟩))
  have hb2 : Below w1.heap.size w1 W2 := by rw [← hW2]; exact (Below.refl _ _).alloc (Nat.le_refl _) _
  have r2 : Box W2 w1.heap.size 40 #[.int .i64 c, .string ⟨#[]⟩, .string t] := by rw [← hW2]; exact Box.new _ _ _
  have p2 := (p.below hb1).below hb2
  have q2 := (q.below hb1).below hb2
  have e0 : W2.cell? ⟨w.heap.size, 0, none⟩ = some (.int .i64 id) := (p2.cell 0 (by simp)).1
  obtain ⟨d0, d1, d2⟩ : W2.cell? ⟨w1.heap.size, 0, none⟩ = some (.int .i64 c) ∧ W2.cell? ⟨w1.heap.size, 1, none⟩ = some (.string ⟨#[]⟩) ∧ W2.cell? ⟨w1.heap.size, 2, none⟩ = some (.string t) := ⟨(r2.cell 0 (by simp)).1, (r2.cell 1 (by simp)).1, (r2.cell 2 (by simp)).1⟩
  clear hW2 hR
  go_wp2_with (refine store_t info_rep rfl _ _ rfl (w.heap.size + 1) #[.int .i64 id, .int .i64 kd, .int .i64 c, .string ⟨#[]⟩, .string t, .string ⟨#[]⟩, .slice none 0 0, .string ⟨#[]⟩, .bool false, .slice none 0 0] rfl rfl q2 rfl rfl h1c ?_)
  exact bodyPost_ret (results_ct rfl _ _ _ _ _ rfl (ld_rep (box_row q2) rfl)) rfl ⟨rfl, below_row ((hB'.out.trans (hb1.mono hB'.out.size)).trans (hb2.mono (by have := hb1.size; have := hB'.out.size; omega))) (by omega) _⟩
set_option maxRecDepth 100000 in
set_option maxHeartbeats 2000000 in
theorem mRefNone (id kind ver meth scope deref slim tlim aband : Int) (bn pass mech cred base name nrdn nsup desc val : ByteArray) (hasc typ dold hsup hval : Bool) (xfa xaa xca xta xka : Option Addr) (xfc xac xcc xtc xkc : Nat) (xfs : List Nod) (xal : List (List UInt8)) (xcs : List Chg) (xts : List Att) (xks : List Ctl) (w : World) (hn : xks.length ≤ 2932031007317) (h : GRow 4 oV w xka xks) (ha : ansd kind = true) (hr : resU ⟨id, kind, ver, bn, meth, pass, mech, cred, hasc, base, scope, deref, slim, tlim, typ, name, nrdn, dold, nsup, hsup, desc, val, hval, aband⟩ (xks.any Ctl.crit) = none) :
    Calls Tryd.prog 6 #[.agg #[.int .i64 id, .int .i64 kind, .int .i64 ver, .string bn, .int .i64 meth, .string pass, .string mech, .string cred, .bool hasc, .string base, .int .i64 scope, .int .i64 deref, .int .i64 slim, .int .i64 tlim, .bool typ, .slice xfa xfs.length xfc, .slice xaa xal.length xac, .string name, .slice xca xcs.length xcc, .slice xta xts.length xtc, .string nrdn, .bool dold, .string nsup, .bool hsup, .string desc, .string val, .bool hval, .int .i64 aband, .slice xka xks.length xkc]] w fun e w' => e = .returned (.tuple #[.agg #[.int .i64 0, .int .i64 0, .int .i64 0, .string ⟨#[]⟩, .string ⟨#[]⟩, .string ⟨#[]⟩, .slice none 0 0, .string ⟨#[]⟩, .bool false, .slice none 0 0], .bool false]) ∧ Below w.heap.size w w' := by
  obtain ⟨wA, hwA⟩ : ∃ W, w.alloc (.cells #[.int .i64 id, .int .i64 kind, .int .i64 ver, .string bn, .int .i64 meth, .string pass, .string mech, .string cred, .bool hasc, .string base, .int .i64 scope, .int .i64 deref, .int .i64 slim, .int .i64 tlim, .bool typ, .slice xfa xfs.length xfc, .slice xaa xal.length xac, .string name, .slice xca xcs.length xcc, .slice xta xts.length xtc, .string nrdn, .bool dold, .string nsup, .bool hsup, .string desc, .string val, .bool hval, .int .i64 aband, .slice xka xks.length xkc] 36) = W := ⟨_, rfl⟩
  obtain ⟨wB, hwB⟩ : ∃ W, wA.alloc (.cells #[.int .i64 0, .int .i64 0, .int .i64 0, .string ⟨#[]⟩, .string ⟨#[]⟩, .string ⟨#[]⟩, .slice none 0 0, .string ⟨#[]⟩, .bool false, .slice none 0 0] 42) = W := ⟨_, rfl⟩
  have na : wA.heap.size = w.heap.size + 1 := by rw [← hwA]; simp
  have p : Box wB w.heap.size 36 #[.int .i64 id, .int .i64 kind, .int .i64 ver, .string bn, .int .i64 meth, .string pass, .string mech, .string cred, .bool hasc, .string base, .int .i64 scope, .int .i64 deref, .int .i64 slim, .int .i64 tlim, .bool typ, .slice xfa xfs.length xfc, .slice xaa xal.length xac, .string name, .slice xca xcs.length xcc, .slice xta xts.length xtc, .string nrdn, .bool dold, .string nsup, .bool hsup, .string desc, .string val, .bool hval, .int .i64 aband, .slice xka xks.length xkc] := by rw [← hwB]; exact Box.past (by rw [← hwA]; exact Box.new _ _ _) _
  have q : Box wB (w.heap.size + 1) 42 #[.int .i64 0, .int .i64 0, .int .i64 0, .string ⟨#[]⟩, .string ⟨#[]⟩, .string ⟨#[]⟩, .slice none 0 0, .string ⟨#[]⟩, .bool false, .slice none 0 0] := by rw [← hwB, ← na]; exact Box.new _ _ _
  have hB : Below w.heap.size w wB := by
    rw [← hwB, ← hwA]
    exact ((Below.refl _ _).alloc (Nat.le_refl _) _).alloc (by simp) _
  have hA : Hid (Calls Tryd.prog 17 #[.int .i64 kind] wB fun e w' => e = .returned (.tuple #[.int .i64 (rkd kind), .bool true]) ∧ wB = w') := by
    have := answerTo_any kind wB
    rw [ha] at this
    exact this
  have hR : Hid (Calls Tryd.prog 18 #[.agg #[.int .i64 id, .int .i64 kind, .int .i64 ver, .string bn, .int .i64 meth, .string pass, .string mech, .string cred, .bool hasc, .string base, .int .i64 scope, .int .i64 deref, .int .i64 slim, .int .i64 tlim, .bool typ, .slice xfa xfs.length xfc, .slice xaa xal.length xac, .string name, .slice xca xcs.length xcc, .slice xta xts.length xtc, .string nrdn, .bool dold, .string nsup, .bool hsup, .string desc, .string val, .bool hval, .int .i64 aband, .slice xka xks.length xkc]] wB fun e w' => e = .returned (.tuple #[.agg #[.int .i64 0, .string ⟨#[]⟩, .string ⟨#[]⟩], .bool false]) ∧ Below wB.heap.size wB w') := by
    have := refusal_any ⟨id, kind, ver, bn, meth, pass, mech, cred, hasc, base, scope, deref, slim, tlim, typ, name, nrdn, dold, nsup, hsup, desc, val, hval, aband⟩ ⟨xfa, xfc, xfs, xaa, xac, xal, xca, xcc, xcs, xta, xtc, xts, xka, xkc, xks⟩ wB hn (h.below oV_len hB) ha
    rw [hr] at this
    exact this
  have c1 : wB.cell? ⟨w.heap.size, 1, none⟩ = some (.int .i64 kind) := (p.cell 1 (by simp)).1
  have hB' : Hid (Below w.heap.size w wB) := hB
  have h1c : (#[.int .i64 0, .int .i64 0, .int .i64 0, .string ⟨#[]⟩, .string ⟨#[]⟩, .string ⟨#[]⟩, .slice none 0 0, .string ⟨#[]⟩, .bool false, .slice none 0 0] : Array Value).all (·.oneCell') = true := by simp [Value.oneCell']
  clear h hn ha hr
  generalize rkd kind = kd at *
  go_enter Tryd.func6, Tryd.ntmps6
  go_upto_region 1 with fail
  clear hwA hwB na
  go_upto_region 4 with (go_at_call 17; refine hA.out.mono ?_; rintro e w0 ⟨rfl, rfl⟩)
  clear hA c1
  go_upto_region 5 with (first | (refine load_req rfl _ rfl w.heap.size rfl p rfl ?_) | (go_at_call 18; refine hR.out.mono ?_; rintro e w1 ⟨rfl, hb1⟩))
  obtain ⟨W2, hW2⟩ : ∃ W, w1.alloc (.cells #[.int .i64 0, .string ⟨#[]⟩, .string ⟨#[]⟩] 40) = W := ⟨_, rfl⟩
  have hb2 : Below w1.heap.size w1 W2 := by rw [← hW2]; exact (Below.refl _ _).alloc (Nat.le_refl _) _
  have q2 := (q.below hb1).below hb2
  rw [hW2]
  clear hW2 hR
  go_wp2_with (refine store_t info_rep rfl _ _ rfl (w.heap.size + 1) #[.int .i64 0, .int .i64 0, .int .i64 0, .string ⟨#[]⟩, .string ⟨#[]⟩, .string ⟨#[]⟩, .slice none 0 0, .string ⟨#[]⟩, .bool false, .slice none 0 0] rfl rfl q2 rfl rfl h1c ?_)
  exact bodyPost_ret (results_ct rfl _ _ _ _ _ rfl (ld_rep (box_row q2) rfl)) rfl ⟨rfl, below_row ((hB'.out.trans (hb1.mono hB'.out.size)).trans (hb2.mono (by have := hb1.size; have := hB'.out.size; omega))) (by omega) _⟩
theorem mRefusal_any (q : Scl) (L : Lst) (w : World) (hn : L.ks.length ≤ 2932031007317) (h : GRow 4 oV w L.ka L.ks) :
    Calls Tryd.prog 6 #[.agg (rq q L)] w fun e w' => e = .returned (outV q (L.ks.any Ctl.crit)) ∧ Below w.heap.size w w' := by
  obtain ⟨id, kind, ver, bn, meth, pass, mech, cred, hasc, base, scope, deref, slim, tlim, typ, name, nrdn, dold, nsup, hsup, desc, val, hval, aband⟩ := q
  obtain ⟨xfa, xfc, xfs, xaa, xac, xal, xca, xcc, xcs, xta, xtc, xts, xka, xkc, xks⟩ := L
  dsimp only [rq] at *
  unfold outV
  cases ha : ansd kind with
  | false =>
    rw [if_neg (by simp)]
    exact mRefNo _ _ _ _ _ _ _ _ _ _ _ _ _ _ _ _ _ _ _ _ _ _ _ _ _ _ _ _ _ _ _ _ _ _ _ _ _ _ _ w hn h ha
  | true =>
    rw [if_pos (by simp)]
    cases hr : resU ⟨id, kind, ver, bn, meth, pass, mech, cred, hasc, base, scope, deref, slim, tlim, typ, name, nrdn, dold, nsup, hsup, desc, val, hval, aband⟩ (xks.any Ctl.crit) with
    | none => exact mRefNone _ _ _ _ _ _ _ _ _ _ _ _ _ _ _ _ _ _ _ _ _ _ _ _ _ _ _ _ _ _ _ _ _ _ _ _ _ _ _ w hn h ha hr
    | some y =>
      obtain ⟨c, t⟩ := y
      exact mRefSome _ _ _ _ _ _ _ _ _ _ _ _ _ _ _ _ _ _ _ _ _ _ _ _ _ _ _ _ _ _ _ _ _ _ _ _ _ _ _ w hn h c t ha hr
set_option maxRecDepth 100000 in
set_option maxHeartbeats 2000000 in
theorem mNotice_any (t : ByteArray) (w : World) :
    Calls Tryd.prog 9 #[.string t] w fun e w' => e = .returned (.agg #[.int .i64 0, .int .i64 8, .int .i64 2, .string ⟨#[]⟩, .string t, .string ⟨#[]⟩, .slice none 0 0, .string ⟨#[49, 46, 51, 46, 54, 46, 49, 46, 52, 46, 49, 46, 49, 52, 54, 54, 46, 50, 48, 48, 51, 54]⟩, .bool true, .slice none 0 0]) ∧ Below w.heap.size w w' := by
  obtain ⟨wB, hwB⟩ : ∃ W, w.alloc (.cells #[.int .i64 0, .int .i64 0, .int .i64 0, .string ⟨#[]⟩, .string ⟨#[]⟩, .string ⟨#[]⟩, .slice none 0 0, .string ⟨#[]⟩, .bool false, .slice none 0 0] 42) = W := ⟨_, rfl⟩
  have q : Box wB w.heap.size 42 #[.int .i64 0, .int .i64 0, .int .i64 0, .string ⟨#[]⟩, .string ⟨#[]⟩, .string ⟨#[]⟩, .slice none 0 0, .string ⟨#[]⟩, .bool false, .slice none 0 0] := by rw [← hwB]; exact Box.new _ _ _
  have hB : Hid (Below w.heap.size w wB) := by rw [← hwB]; exact (Below.refl _ _).alloc (Nat.le_refl _) _
  have h1c : (#[.int .i64 0, .int .i64 8, .int .i64 2, .string ⟨#[]⟩, .string t, .string ⟨#[]⟩, .slice none 0 0, .string ⟨#[49, 46, 51, 46, 54, 46, 49, 46, 52, 46, 49, 46, 49, 52, 54, 54, 46, 50, 48, 48, 51, 54]⟩, .bool true, .slice none 0 0] : Array Value).all (·.oneCell') = true := by simp [Value.oneCell']
  go_enter Tryd.func9, Tryd.ntmps9
  go_upto_region 1 with fail
  clear hwB
  go_wp2_with (refine store_t info_rep rfl _ _ rfl w.heap.size #[.int .i64 0, .int .i64 8, .int .i64 2, .string ⟨#[]⟩, .string t, .string ⟨#[]⟩, .slice none 0 0, .string ⟨#[49, 46, 51, 46, 54, 46, 49, 46, 52, 46, 49, 46, 49, 52, 54, 54, 46, 50, 48, 48, 51, 54]⟩, .bool true, .slice none 0 0] rfl rfl q rfl rfl h1c ?_)
  exact bodyPost_ret (results_cell _ _ _ rfl _ _ _ _ _ rfl (ld_rep (box_row q) rfl)) rfl ⟨rfl, below_row hB.out (Nat.le_refl _) _⟩
end Go.Proofs.YtembeinglnojkaaDoor
