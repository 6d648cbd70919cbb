import Derived.Test.YtembeinglnojkaaDoorMgFil
namespace Go.Proofs.YtembeinglnojkaaDoor
open Go.RowKit
set_option linter.unusedVariables false

/-- What a request says beside its lists. -/
structure Scl where
  id : Int
  kind : Int
  ver : Int
  bn : ByteArray
  meth : Int
  pass : ByteArray
  mech : ByteArray
  cred : ByteArray
  hasc : Bool
  base : ByteArray
  scope : Int
  deref : Int
  slim : Int
  tlim : Int
  typ : Bool
  name : ByteArray
  nrdn : ByteArray
  dold : Bool
  nsup : ByteArray
  hsup : Bool
  desc : ByteArray
  val : ByteArray
  hval : Bool
  aband : Int
/-- Its lists. -/
structure Lst where
  fa : Option Addr
  fc : Nat
  fs : List Nod
  aa : Option Addr
  ac : Nat
  al : List (List UInt8)
  ca : Option Addr
  cc : Nat
  cs : List Chg
  ta : Option Addr
  tc : Nat
  ts : List Att
  ka : Option Addr
  kc : Nat
  ks : List Ctl
/-- A request's cells. -/
abbrev rq (q : Scl) (L : Lst) : Array Value := #[.int .i64 q.id, .int .i64 q.kind, .int .i64 q.ver, .string q.bn, .int .i64 q.meth, .string q.pass, .string q.mech, .string q.cred, .bool q.hasc, .string q.base, .int .i64 q.scope, .int .i64 q.deref, .int .i64 q.slim, .int .i64 q.tlim, .bool q.typ, .slice L.fa L.fs.length L.fc, .slice L.aa L.al.length L.ac, .string q.name, .slice L.ca L.cs.length L.cc, .slice L.ta L.ts.length L.tc, .string q.nrdn, .bool q.dold, .string q.nsup, .bool q.hsup, .string q.desc, .string q.val, .bool q.hval, .int .i64 q.aband, .slice L.ka L.ks.length L.kc]
/-- The lists may be read. -/
def LRd (w : World) (L : Lst) : Prop := RdG 9 nV nT w L.fa L.fs ∧ Row w L.aa L.al ∧ RdG 3 cV cT w L.ca L.cs ∧ RdG 3 tV tT w L.ta L.ts ∧ GRow 4 oV w L.ka L.ks
theorem LRd.below {w w' : World} {L : Lst} (h : LRd w L) (hb : Below w.heap.size w w') : LRd w' L := ⟨h.1.below nV_len hb, h.2.1.below hb, h.2.2.1.below cV_len hb, h.2.2.2.1.below tV_len hb, h.2.2.2.2.below oV_len hb⟩
/-- The lists, marked. -/
def LMk (w : World) (L : Lst) : Prop := MkG 9 nV nT zNo w L.fa L.fc L.fs ∧ MkT w L.aa L.ac L.al ∧ MkG 3 cV cT zCh w L.ca L.cc L.cs ∧ MkG 3 tV tT zAt w L.ta L.tc L.ts ∧ (GRow 4 oV w L.ka (L.ks ++ [zCt]) ∧ L.ks.length + 1 ≤ L.kc)
theorem LMk.below {w w' : World} {L : Lst} (h : LMk w L) (hb : Below w.heap.size w w') : LMk w' L := ⟨h.1.below nV_len hb, h.2.1.below hb, h.2.2.1.below cV_len hb, h.2.2.2.1.below tV_len hb, h.2.2.2.2.1.below oV_len hb, h.2.2.2.2.2⟩
theorem LMk.rd {w : World} {L : Lst} (h : LMk w L) : LRd w L := ⟨h.1.rd, h.2.1.row, h.2.2.1.rd, h.2.2.2.1.rd, h.2.2.2.2.1.front⟩
/-- They say the same. -/
def LSa (L M : Lst) : Prop := L.fs.map np = M.fs.map np ∧ L.al = M.al ∧ L.cs.map cP = M.cs.map cP ∧ L.ts.map tP = M.ts.map tP ∧ L.ks = M.ks
/-- They are no greater than may be. -/
def LSm (L : Lst) : Prop := (L.fs.length ≤ 1099511627744 ∧ ∀ x ∈ L.fs, x.l.length ≤ 8796093021952) ∧ L.al.length ≤ 8796093021952 ∧ (L.cs.length ≤ 2932031007317 ∧ ∀ x ∈ L.cs, x.l.length ≤ 8796093021952) ∧ (L.ts.length ≤ 2513169434843 ∧ ∀ x ∈ L.ts, x.l.length ≤ 8796093021952) ∧ L.ks.length ≤ 2932031007317

set_option maxRecDepth 100000 in
set_option maxHeartbeats 4000000 in
theorem sameSearch_any (base : ByteArray) (scope deref slim tlim : Int) (typ : Bool) (xfs yfs : List Nod) (xal : List (List UInt8)) (xfa yfa xaa yaa : Option Addr) (xfc yfc xac yac : Nat) (w : World)
    (hn : xfs.length ≤ 1099511627744) (hl : ∀ x ∈ xfs, x.l.length ≤ 8796093021952) (ha : xal.length ≤ 8796093021952) (h1 : RdG 9 nV nT w xfa xfs) (h2 : RdG 9 nV nT w yfa yfs) (he : xfs.map np = yfs.map np) (h3 : Row w xaa xal) (h4 : Row w yaa xal) :
    Calls Tryd.prog 29 #[.agg #[.string base, .int .i64 scope, .int .i64 deref, .int .i64 slim, .int .i64 tlim, .bool typ, .slice xfa xfs.length xfc, .slice xaa xal.length xac], .agg #[.string base, .int .i64 scope, .int .i64 deref, .int .i64 slim, .int .i64 tlim, .bool typ, .slice yfa xfs.length yfc, .slice yaa xal.length yac]] w fun e w' => e = .returned (.bool true) ∧ Below w.heap.size w w' := by
  obtain ⟨wA, hwA⟩ : ∃ W, w.alloc (.cells #[.string base, .int .i64 scope, .int .i64 deref, .int .i64 slim, .int .i64 tlim, .bool typ, .slice xfa xfs.length xfc, .slice xaa xal.length xac] 31) = W := ⟨_, rfl⟩
  obtain ⟨wB, hwB⟩ : ∃ W, wA.alloc (.cells #[.string base, .int .i64 scope, .int .i64 deref, .int .i64 slim, .int .i64 tlim, .bool typ, .slice yfa xfs.length yfc, .slice yaa xal.length yac] 31) = W := ⟨_, rfl⟩
  have hA : Below w.heap.size w wA := by rw [← hwA]; exact (Below.refl _ _).alloc (Nat.le_refl _) _
  have hB : Below wA.heap.size wA wB := by rw [← hwB]; exact (Below.refl _ _).alloc (Nat.le_refl _) _
  have hAB : Below w.heap.size w wB := hA.trans (hB.mono hA.size)
  have p : Box wB w.heap.size 31 #[.string base, .int .i64 scope, .int .i64 deref, .int .i64 slim, .int .i64 tlim, .bool typ, .slice xfa xfs.length xfc, .slice xaa xal.length xac] := by rw [← hwB]; exact Box.past (by rw [← hwA]; exact Box.new _ _ _) _
  have q : Box wB wA.heap.size 31 #[.string base, .int .i64 scope, .int .i64 deref, .int .i64 slim, .int .i64 tlim, .bool typ, .slice yfa xfs.length yfc, .slice yaa xal.length yac] := by rw [← hwB]; exact Box.new _ _ _
  have hF : Hid (Calls Tryd.prog 32 #[.slice xfa xfs.length xfc, .slice yfa xfs.length yfc] wB fun e w' => e = .returned (.bool true) ∧ Below wB.heap.size wB w') :=
    sameFilter_any xfs yfs xfa yfa xfc yfc wB hn hl (h1.below nV_len hAB) (h2.below nV_len hAB) he
  have hT : Hid (∀ W, Below wB.heap.size wB W → Calls Tryd.prog 28 #[.slice xaa xal.length xac, .slice yaa xal.length yac] W fun e w' => e = .returned (.bool true) ∧ Below W.heap.size W w') := fun W hW =>
    (sameT_any xal xaa yaa xac yac W ha ((h3.below hAB).below hW) ((h4.below hAB).below hW)).mono (fun e w' ⟨h, m, hm⟩ => ⟨h, by rw [hm]; exact drewN_below _ _ _⟩)
  obtain ⟨c0, c1, c2, c3, c4, c5, c6⟩ : wB.cell? ⟨w.heap.size, 0, none⟩ = some (.string base) ∧ wB.cell? ⟨w.heap.size, 1, none⟩ = some (.int .i64 scope) ∧ wB.cell? ⟨w.heap.size, 2, none⟩ = some (.int .i64 deref) ∧ wB.cell? ⟨w.heap.size, 3, none⟩ = some (.int .i64 slim) ∧ wB.cell? ⟨w.heap.size, 4, none⟩ = some (.int .i64 tlim) ∧ wB.cell? ⟨w.heap.size, 5, none⟩ = some (.bool typ) ∧ wB.cell? ⟨w.heap.size, 6, none⟩ = some (.slice xfa xfs.length xfc) := ⟨(p.cell 0 (by simp)).1, (p.cell 1 (by simp)).1, (p.cell 2 (by simp)).1, (p.cell 3 (by simp)).1, (p.cell 4 (by simp)).1, (p.cell 5 (by simp)).1, (p.cell 6 (by simp)).1⟩
  obtain ⟨d0, d1, d2, d3, d4, d5, d6⟩ : wB.cell? ⟨wA.heap.size, 0, none⟩ = some (.string base) ∧ wB.cell? ⟨wA.heap.size, 1, none⟩ = some (.int .i64 scope) ∧ wB.cell? ⟨wA.heap.size, 2, none⟩ = some (.int .i64 deref) ∧ wB.cell? ⟨wA.heap.size, 3, none⟩ = some (.int .i64 slim) ∧ wB.cell? ⟨wA.heap.size, 4, none⟩ = some (.int .i64 tlim) ∧ wB.cell? ⟨wA.heap.size, 5, none⟩ = some (.bool typ) ∧ wB.cell? ⟨wA.heap.size, 6, none⟩ = some (.slice yfa xfs.length yfc) := ⟨(q.cell 0 (by simp)).1, (q.cell 1 (by simp)).1, (q.cell 2 (by simp)).1, (q.cell 3 (by simp)).1, (q.cell 4 (by simp)).1, (q.cell 5 (by simp)).1, (q.cell 6 (by simp)).1⟩
  have hK : Hid (∀ W, Below wB.heap.size wB W → W.cell? ⟨w.heap.size, 7, none⟩ = some (.slice xaa xal.length xac) ∧ W.cell? ⟨wA.heap.size, 7, none⟩ = some (.slice yaa xal.length yac)) := fun W hb => ⟨((p.below hb).cell 7 (by simp)).1, ((q.below hb).cell 7 (by simp)).1⟩
  have hAB' : Hid (Below w.heap.size w wB) := hAB
  clear p q hA hB hAB h1 h2 h3 h4 he hl
  go_enter Tryd.func29, Tryd.ntmps29
  go_upto_region 1 with fail
  clear hwA hwB
  go_wp2_with (first | (go_at_call 32; refine hF.out.mono ?_; rintro e w1 ⟨rfl, hb1⟩; obtain ⟨k7, m7⟩ := hK.out w1 hb1) | (go_at_call 28; refine (hT.out w1 hb1).mono ?_; rintro e w2 ⟨rfl, hb2⟩))
  go_ret
  exact ⟨rfl, hAB'.out.trans ((hb1.trans (hb2.mono hb1.size)).mono hAB'.out.size)⟩

theorem ne_bind (ver : Int) (bn : ByteArray) (meth : Int) (pass mech cred : ByteArray) (hasc : Bool) (W : World) :
    (binOp .neq 25 (.agg #[.int .i64 ver, .string bn, .int .i64 meth, .string pass, .string mech, .string cred, .bool hasc]) (.agg #[.int .i64 ver, .string bn, .int .i64 meth, .string pass, .string mech, .string cred, .bool hasc])).run Tryd.prog W = .ok (.bool false) W := by
  have hS : Tryd.prog.underlying 25 = some (.struct (Tryd.prog.fieldsOf 25)) := by kernel_rfl
  have hp : Tryd.prog.stoodInHeld 25 = false := by kernel_rfl
  rw [run_neq_struct, run_equalIn_struct _ _ _ _ _ hS hp]
  simp only [Program.fieldsOf, Tryd.underlying25]
  simp [Op.eqFields, go_sem]

set_option maxRecDepth 100000 in
set_option maxHeartbeats 4000000 in
theorem sameRequest_any (q : Scl) (L M : Lst) (w : World) (hm : LSm L) (h1 : LRd w L) (h2 : LRd w M) (he : LSa L M) :
    Calls Tryd.prog 21 #[.agg (rq q L), .agg (rq q M)] w fun e w' => e = .returned (.bool true) ∧ Below w.heap.size w w' := by
  obtain ⟨id, kind, ver, bn, meth, pass, mech, cred, hasc, base, scope, deref, slim, tlim, typ, name, nrdn, dold, nsup, hsup, desc, val, hval, aband⟩ := q
  obtain ⟨xfa, xfc, xfs, xaa, xac, xal, xca, xcc, xcs, xta, xtc, xts, xka, xkc, xks⟩ := L
  obtain ⟨yfa, yfc, yfs, yaa, yac, yal, yca, ycc, ycs, yta, ytc, yts, yka, ykc, yks⟩ := M
  obtain ⟨e1, e2, e3, e4, e5⟩ := he
  dsimp only at e1 e2 e3 e4 e5
  subst e2 e5
  have lf : yfs.length = xfs.length := by simpa using (congrArg List.length e1).symm
  have lc : ycs.length = xcs.length := by simpa using (congrArg List.length e3).symm
  have lt : yts.length = xts.length := by simpa using (congrArg List.length e4).symm
  dsimp only [rq]
  rw [lf, lc, lt]
  obtain ⟨wA, hwA⟩ : ∃ W, w.alloc (.cells #[.int .i64 id, .int .i64 kind, .int .i64 ver, .string bn, .int .i64 meth, .string pass, .string mech, .string cred, .bool hasc, .string base, .int .i64 scope, .int .i64 deref, .int .i64 slim, .int .i64 tlim, .bool typ, .slice xfa xfs.length xfc, .slice xaa xal.length xac, .string name, .slice xca xcs.length xcc, .slice xta xts.length xtc, .string nrdn, .bool dold, .string nsup, .bool hsup, .string desc, .string val, .bool hval, .int .i64 aband, .slice xka xks.length xkc] 36) = W := ⟨_, rfl⟩
  obtain ⟨wB, hwB⟩ : ∃ W, wA.alloc (.cells #[.int .i64 id, .int .i64 kind, .int .i64 ver, .string bn, .int .i64 meth, .string pass, .string mech, .string cred, .bool hasc, .string base, .int .i64 scope, .int .i64 deref, .int .i64 slim, .int .i64 tlim, .bool typ, .slice yfa xfs.length yfc, .slice yaa xal.length yac, .string name, .slice yca xcs.length ycc, .slice yta xts.length ytc, .string nrdn, .bool dold, .string nsup, .bool hsup, .string desc, .string val, .bool hval, .int .i64 aband, .slice yka xks.length ykc] 36) = W := ⟨_, rfl⟩
  have hA : Below w.heap.size w wA := by rw [← hwA]; exact (Below.refl _ _).alloc (Nat.le_refl _) _
  have hB : Below wA.heap.size wA wB := by rw [← hwB]; exact (Below.refl _ _).alloc (Nat.le_refl _) _
  have hAB : Below w.heap.size w wB := hA.trans (hB.mono hA.size)
  have p : Box wB w.heap.size 36 #[.int .i64 id, .int .i64 kind, .int .i64 ver, .string bn, .int .i64 meth, .string pass, .string mech, .string cred, .bool hasc, .string base, .int .i64 scope, .int .i64 deref, .int .i64 slim, .int .i64 tlim, .bool typ, .slice xfa xfs.length xfc, .slice xaa xal.length xac, .string name, .slice xca xcs.length xcc, .slice xta xts.length xtc, .string nrdn, .bool dold, .string nsup, .bool hsup, .string desc, .string val, .bool hval, .int .i64 aband, .slice xka xks.length xkc] := by rw [← hwB]; exact Box.past (by rw [← hwA]; exact Box.new _ _ _) _
  have q : Box wB wA.heap.size 36 #[.int .i64 id, .int .i64 kind, .int .i64 ver, .string bn, .int .i64 meth, .string pass, .string mech, .string cred, .bool hasc, .string base, .int .i64 scope, .int .i64 deref, .int .i64 slim, .int .i64 tlim, .bool typ, .slice yfa xfs.length yfc, .slice yaa xal.length yac, .string name, .slice yca xcs.length ycc, .slice yta xts.length ytc, .string nrdn, .bool dold, .string nsup, .bool hsup, .string desc, .string val, .bool hval, .int .i64 aband, .slice yka xks.length ykc] := by rw [← hwB]; exact Box.new _ _ _
  have hne := ne_bind ver bn meth pass mech cred hasc
  obtain ⟨m1, m2, m3, m4, m5⟩ := hm
  have g1 := h1.below hAB
  have g2 := h2.below hAB
  have hSe : Hid (Calls Tryd.prog 29 #[.agg #[.string base, .int .i64 scope, .int .i64 deref, .int .i64 slim, .int .i64 tlim, .bool typ, .slice xfa xfs.length xfc, .slice xaa xal.length xac], .agg #[.string base, .int .i64 scope, .int .i64 deref, .int .i64 slim, .int .i64 tlim, .bool typ, .slice yfa xfs.length yfc, .slice yaa xal.length yac]] wB fun e w' => e = .returned (.bool true) ∧ Below wB.heap.size wB w') :=
    sameSearch_any base scope deref slim tlim typ xfs yfs xal xfa yfa xaa yaa xfc yfc xac yac wB m1.1 m1.2 m2 g1.1 g2.1 e1 g1.2.1 g2.2.1
  have hCh : Hid (∀ W, Below wB.heap.size wB W → Calls Tryd.prog 30 #[.slice xca xcs.length xcc, .slice yca xcs.length ycc] W fun e w' => e = .returned (.bool true) ∧ Below wB.heap.size wB w') := fun W hW =>
    (sameChanges_any xcs ycs xca yca xcc ycc W m3.1 m3.2 (g1.2.2.1.below cV_len hW) (g2.2.2.1.below cV_len hW) e3).mono (fun e w' ⟨h, m, hm⟩ => ⟨h, by rw [hm]; exact hW.trans (drewN_below _ _ _)⟩)
  have hAt : Hid (∀ W, Below wB.heap.size wB W → Calls Tryd.prog 19 #[.slice xta xts.length xtc, .slice yta xts.length ytc] W fun e w' => e = .returned (.bool true) ∧ Below wB.heap.size wB w') := fun W hW =>
    (sameAttrs_any xts yts xta yta xtc ytc W m4.1 m4.2 (g1.2.2.2.1.below tV_len hW) (g2.2.2.2.1.below tV_len hW) e4).mono (fun e w' ⟨h, m, hm⟩ => ⟨h, by rw [hm]; exact hW.trans (drewN_below _ _ _)⟩)
  have hCo : Hid (∀ W, Below wB.heap.size wB W → Calls Tryd.prog 20 #[.slice xka xks.length xkc, .slice yka xks.length ykc] W fun e w' => e = .returned (.bool true) ∧ Below wB.heap.size wB w') := fun W hW =>
    (sameControls_any xks xka yka xkc ykc W m5 (g1.2.2.2.2.below oV_len hW) (g2.2.2.2.2.below oV_len hW)).mono (fun e w' ⟨h, m, hm⟩ => ⟨h, by rw [hm]; exact hW.trans (drewN_below _ _ _)⟩)
  obtain ⟨c0, c1, c2, c3, c4, c5, c6, c7, c8, c17, c20, c21, c22, c23, c24, c25, c26, c27, c9, c10, c11, c12, c13, c14, c15, c16⟩ : wB.cell? ⟨w.heap.size, 0, none⟩ = some (.int .i64 id) ∧ wB.cell? ⟨w.heap.size, 1, none⟩ = some (.int .i64 kind) ∧ wB.cell? ⟨w.heap.size, 2, none⟩ = some (.int .i64 ver) ∧ wB.cell? ⟨w.heap.size, 3, none⟩ = some (.string bn) ∧ wB.cell? ⟨w.heap.size, 4, none⟩ = some (.int .i64 meth) ∧ wB.cell? ⟨w.heap.size, 5, none⟩ = some (.string pass) ∧ wB.cell? ⟨w.heap.size, 6, none⟩ = some (.string mech) ∧ wB.cell? ⟨w.heap.size, 7, none⟩ = some (.string cred) ∧ wB.cell? ⟨w.heap.size, 8, none⟩ = some (.bool hasc) ∧ wB.cell? ⟨w.heap.size, 17, none⟩ = some (.string name) ∧ wB.cell? ⟨w.heap.size, 20, none⟩ = some (.string nrdn) ∧ wB.cell? ⟨w.heap.size, 21, none⟩ = some (.bool dold) ∧ wB.cell? ⟨w.heap.size, 22, none⟩ = some (.string nsup) ∧ wB.cell? ⟨w.heap.size, 23, none⟩ = some (.bool hsup) ∧ wB.cell? ⟨w.heap.size, 24, none⟩ = some (.string desc) ∧ wB.cell? ⟨w.heap.size, 25, none⟩ = some (.string val) ∧ wB.cell? ⟨w.heap.size, 26, none⟩ = some (.bool hval) ∧ wB.cell? ⟨w.heap.size, 27, none⟩ = some (.int .i64 aband) ∧ wB.cell? ⟨w.heap.size, 9, none⟩ = some (.string base) ∧ wB.cell? ⟨w.heap.size, 10, none⟩ = some (.int .i64 scope) ∧ wB.cell? ⟨w.heap.size, 11, none⟩ = some (.int .i64 deref) ∧ wB.cell? ⟨w.heap.size, 12, none⟩ = some (.int .i64 slim) ∧ wB.cell? ⟨w.heap.size, 13, none⟩ = some (.int .i64 tlim) ∧ wB.cell? ⟨w.heap.size, 14, none⟩ = some (.bool typ) ∧ wB.cell? ⟨w.heap.size, 15, none⟩ = some (.slice xfa xfs.length xfc) ∧ wB.cell? ⟨w.heap.size, 16, none⟩ = some (.slice xaa xal.length xac) := ⟨(p.cell 0 (by simp)).1, (p.cell 1 (by simp)).1, (p.cell 2 (by simp)).1, (p.cell 3 (by simp)).1, (p.cell 4 (by simp)).1, (p.cell 5 (by simp)).1, (p.cell 6 (by simp)).1, (p.cell 7 (by simp)).1, (p.cell 8 (by simp)).1, (p.cell 17 (by simp)).1, (p.cell 20 (by simp)).1, (p.cell 21 (by simp)).1, (p.cell 22 (by simp)).1, (p.cell 23 (by simp)).1, (p.cell 24 (by simp)).1, (p.cell 25 (by simp)).1, (p.cell 26 (by simp)).1, (p.cell 27 (by simp)).1, (p.cell 9 (by simp)).1, (p.cell 10 (by simp)).1, (p.cell 11 (by simp)).1, (p.cell 12 (by simp)).1, (p.cell 13 (by simp)).1, (p.cell 14 (by simp)).1, (p.cell 15 (by simp)).1, (p.cell 16 (by simp)).1⟩
  obtain ⟨d0, d1, d2, d3, d4, d5, d6, d7, d8, d17, d20, d21, d22, d23, d24, d25, d26, d27, d9, d10, d11, d12, d13, d14, d15, d16⟩ : wB.cell? ⟨wA.heap.size, 0, none⟩ = some (.int .i64 id) ∧ wB.cell? ⟨wA.heap.size, 1, none⟩ = some (.int .i64 kind) ∧ wB.cell? ⟨wA.heap.size, 2, none⟩ = some (.int .i64 ver) ∧ wB.cell? ⟨wA.heap.size, 3, none⟩ = some (.string bn) ∧ wB.cell? ⟨wA.heap.size, 4, none⟩ = some (.int .i64 meth) ∧ wB.cell? ⟨wA.heap.size, 5, none⟩ = some (.string pass) ∧ wB.cell? ⟨wA.heap.size, 6, none⟩ = some (.string mech) ∧ wB.cell? ⟨wA.heap.size, 7, none⟩ = some (.string cred) ∧ wB.cell? ⟨wA.heap.size, 8, none⟩ = some (.bool hasc) ∧ wB.cell? ⟨wA.heap.size, 17, none⟩ = some (.string name) ∧ wB.cell? ⟨wA.heap.size, 20, none⟩ = some (.string nrdn) ∧ wB.cell? ⟨wA.heap.size, 21, none⟩ = some (.bool dold) ∧ wB.cell? ⟨wA.heap.size, 22, none⟩ = some (.string nsup) ∧ wB.cell? ⟨wA.heap.size, 23, none⟩ = some (.bool hsup) ∧ wB.cell? ⟨wA.heap.size, 24, none⟩ = some (.string desc) ∧ wB.cell? ⟨wA.heap.size, 25, none⟩ = some (.string val) ∧ wB.cell? ⟨wA.heap.size, 26, none⟩ = some (.bool hval) ∧ wB.cell? ⟨wA.heap.size, 27, none⟩ = some (.int .i64 aband) ∧ wB.cell? ⟨wA.heap.size, 9, none⟩ = some (.string base) ∧ wB.cell? ⟨wA.heap.size, 10, none⟩ = some (.int .i64 scope) ∧ wB.cell? ⟨wA.heap.size, 11, none⟩ = some (.int .i64 deref) ∧ wB.cell? ⟨wA.heap.size, 12, none⟩ = some (.int .i64 slim) ∧ wB.cell? ⟨wA.heap.size, 13, none⟩ = some (.int .i64 tlim) ∧ wB.cell? ⟨wA.heap.size, 14, none⟩ = some (.bool typ) ∧ wB.cell? ⟨wA.heap.size, 15, none⟩ = some (.slice yfa xfs.length yfc) ∧ wB.cell? ⟨wA.heap.size, 16, none⟩ = some (.slice yaa xal.length yac) := ⟨(q.cell 0 (by simp)).1, (q.cell 1 (by simp)).1, (q.cell 2 (by simp)).1, (q.cell 3 (by simp)).1, (q.cell 4 (by simp)).1, (q.cell 5 (by simp)).1, (q.cell 6 (by simp)).1, (q.cell 7 (by simp)).1, (q.cell 8 (by simp)).1, (q.cell 17 (by simp)).1, (q.cell 20 (by simp)).1, (q.cell 21 (by simp)).1, (q.cell 22 (by simp)).1, (q.cell 23 (by simp)).1, (q.cell 24 (by simp)).1, (q.cell 25 (by simp)).1, (q.cell 26 (by simp)).1, (q.cell 27 (by simp)).1, (q.cell 9 (by simp)).1, (q.cell 10 (by simp)).1, (q.cell 11 (by simp)).1, (q.cell 12 (by simp)).1, (q.cell 13 (by simp)).1, (q.cell 14 (by simp)).1, (q.cell 15 (by simp)).1, (q.cell 16 (by simp)).1⟩
  have hK : Hid (∀ W, Below wB.heap.size wB W → (W.cell? ⟨w.heap.size, 18, none⟩ = some (.slice xca xcs.length xcc) ∧ W.cell? ⟨w.heap.size, 19, none⟩ = some (.slice xta xts.length xtc) ∧ W.cell? ⟨w.heap.size, 28, none⟩ = some (.slice xka xks.length xkc)) ∧ (W.cell? ⟨wA.heap.size, 18, none⟩ = some (.slice yca xcs.length ycc) ∧ W.cell? ⟨wA.heap.size, 19, none⟩ = some (.slice yta xts.length ytc) ∧ W.cell? ⟨wA.heap.size, 28, none⟩ = some (.slice yka xks.length ykc))) := fun W hb => ⟨⟨((p.below hb).cell 18 (by simp)).1, ((p.below hb).cell 19 (by simp)).1, ((p.below hb).cell 28 (by simp)).1⟩, ⟨((q.below hb).cell 18 (by simp)).1, ((q.below hb).cell 19 (by simp)).1, ((q.below hb).cell 28 (by simp)).1⟩⟩
  have hAB' : Hid (Below w.heap.size w wB) := hAB
  clear p q hA hB hAB h1 h2 g1 g2 e1 e3 e4 lf lc lt m1 m2 m3 m4 m5
  go_enter Tryd.func21, Tryd.ntmps21
  go_upto_region 1 with fail
  clear hwA hwB
  go_upto_region 3 with fail
  clear c0 d0 c1 d1 c2 d2 c3 d3 c4 d4 c5 d5 c6 d6 c7 d7 c8 d8 c17 d17 c20 d20 c21 d21 hne
  go_upto_region 5 with fail
  clear c22 d22 c23 d23 c24 d24 c25 d25 c26 d26 c27 d27
  go_wp2_with (first | (go_at_call 29; refine hSe.out.mono ?_; rintro e w1 ⟨rfl, hb1⟩; obtain ⟨⟨K1, K2, K3⟩, M1, M2, M3⟩ := hK.out w1 hb1; clear c9 d9 c10 d10 c11 d11 c12 d12 c13 d13 c14 d14 c15 d15 c16 d16) | (go_at_call 30; refine (hCh.out w1 hb1).mono ?_; rintro e w2 ⟨rfl, hb2⟩; obtain ⟨⟨N1, N2, N3⟩, P1, P2, P3⟩ := hK.out w2 hb2) | (go_at_call 19; refine (hAt.out w2 hb2).mono ?_; rintro e w3 ⟨rfl, hb3⟩; obtain ⟨⟨R1, R2, R3⟩, T1, T2, T3⟩ := hK.out w3 hb3) | (go_at_call 20; refine (hCo.out w3 hb3).mono ?_; rintro e w4 ⟨rfl, hb4⟩))
  go_ret
  exact ⟨rfl, hAB'.out.trans (hb4.mono hAB'.out.size)⟩
end Go.Proofs.YtembeinglnojkaaDoor
