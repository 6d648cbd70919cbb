import Derived.Test.YtembeinglnojkaaDoorMgCopy
import Derived.Test.YtembeinglnojkaaDoorMgSpr
import Derived.Test.YtembeinglnojkaaDoorMgReq
namespace Go.Proofs.YtembeinglnojkaaDoor
open Go.RowKit
set_option linter.unusedVariables false

/-- All blocks but two stand. -/
def Kp (b0 : Nat) (W W' : World) : Prop := W.heap.size ≤ W'.heap.size ∧ ∀ b, b ≠ b0 → b ≠ b0 + 1 → b < W.heap.size → W'.heap[b]? = W.heap[b]?
theorem Kp.refl (b0 : Nat) (W : World) : Kp b0 W W := ⟨Nat.le_refl _, fun _ _ _ _ => rfl⟩
theorem Kp.trans {b0 : Nat} {W W' W'' : World} (h : Kp b0 W W') (h' : Kp b0 W' W'') : Kp b0 W W'' := ⟨Nat.le_trans h.1 h'.1, fun b h1 h2 h3 => by rw [h'.2 b h1 h2 (Nat.lt_of_lt_of_le h3 h.1), h.2 b h1 h2 h3]⟩
theorem Kp.below {b0 : Nat} {W W' : World} (h : Below W.heap.size W W') : Kp b0 W W' := ⟨h.size, fun b _ _ hb => h.block b hb⟩
theorem Kp.set (b0 i : Nat) (W : World) (v : Value) : Kp b0 W (W.setCell ⟨b0, i, none⟩ v) := ⟨by rw [World.size_setCell]; exact Nat.le_refl _, fun b h1 _ _ => Below.heap_setCell _ _ _ _ (by show b ≠ b0; exact h1)⟩
theorem Kp.agr {b0 B : Nat} {w W : World} (h : Kp b0 w W) (hB : b0 + 1 < B) : Agr B w W := fun b h1 h2 => h.2 b (by omega) (by omega) h2
/-- It holds, and goes on to hold whatever becomes of the two. -/
def Qn (b0 : Nat) (P : World → Prop) (W : World) : Prop := ∀ W', Kp b0 W W' → P W'
theorem Qn.next {b0 : Nat} {P : World → Prop} {W W' : World} (h : Qn b0 P W) (hk : Kp b0 W W') : Qn b0 P W' := fun W'' h' => h W'' (hk.trans h')
theorem Qn.now {b0 : Nat} {P : World → Prop} {W : World} (h : Qn b0 P W) : P W := h W (Kp.refl _ _)
theorem kp_row (b0 g : Nat) (W : World) (cs : Array Value) (hg : g = b0 + 1) : Kp b0 W (W.setRow g cs) := by
  subst hg
  refine ⟨by simp [World.setRow], fun b _ h2 _ => ?_⟩
  simp only [World.setRow]
  rw [Array.getElem?_modify, if_neg (fun e => h2 e.symm)]
theorem box_row {W : World} {g : Nat} {t : TypeId} {cs cs' : Array Value} (h : Box W g t cs) : Box (W.setRow g cs') g t cs' := setRow_heap W g cs cs' t (0, 0) h
theorem below_row {w W : World} {B g : Nat} (h : Below B w W) (hg : B ≤ g) (cs : Array Value) : Below B w (W.setRow g cs) := by
  obtain ⟨a1, a2, a3, a4, a5⟩ := h
  refine ⟨a1, a2, a3, ?_, fun b hb => ?_⟩
  · have : (W.setRow g cs).heap.size = W.heap.size := by simp [World.setRow]
    rw [this]
    exact a4
  · have := a5 b hb
    rw [← this]
    simp only [World.setRow]
    rw [Array.getElem?_modify, if_neg (fun e => by omega)]
theorem info_req : (Tryd.prog.info? 36).map (·.size) = some 29 := by kernel_rfl
theorem ld_req {W : World} {g : Nat} {cs : Array Value} (h : Box W g 36 cs) (hs : cs.size = 29) : (loadVar 36 ⟨g, 0, none⟩).run Tryd.prog W = .ok (.agg cs) W :=
  run_loadVar_row W g 36 36 _ (0, 0) _ h Tryd.underlying36 rfl (by rw [hs]; exact info_req)

theorem store_req {ops : Array Oper} {rest : List Oper} {o : Oper} {a : Act} {w : World} {Q : Exit → Act → World → Prop} (hgd : o.guard = none) (x y : Operand) (ho : o.op = .store 36 x y)
    (g : Nat) (cells : Array Value) (hx : a.eval x = .pointer (some ⟨g, 0, none⟩)) (hy : a.eval y = .agg cells) {old : Array Value} (hg : Box w g 36 old) (ho1 : old.size = 29) (ho2 : cells.size = 29) (h1 : cells.all (·.oneCell') = true)
    (h : wpList Tryd.prog ops Q rest (a.put o.dst undef) (w.setRow g cells)) : wpList Tryd.prog ops Q (o :: rest) a w :=
  wpList_store_row hgd 36 x y ho g cells hx hy 36 old hg (by rw [ho2]; exact info_req) (by rw [ho1, ho2]) h1 h
theorem load_req {ops : Array Oper} {rest : List Oper} {o : Oper} {a : Act} {w : World} {Q : Exit → Act → World → Prop} (hgd : o.guard = none) (x : Operand) (ho : o.op = .load 36 x)
    (g : Nat) (hx : a.eval x = .pointer (some ⟨g, 0, none⟩)) {cs : Array Value} (hg : Box w g 36 cs) (hs : cs.size = 29)
    (h : wpList Tryd.prog ops Q rest (a.put o.dst (.agg cs)) w) : wpList Tryd.prog ops Q (o :: rest) a w :=
  wpList_load_row hgd 36 x ho g hx 36 cs (0, 0) _ hg Tryd.underlying36 rfl (by rw [hs]; exact info_req) h
set_option maxRecDepth 100000 in
set_option maxHeartbeats 4000000 in
theorem request_any (q : Scl) (L : Lst) (w : World) (hm : LSm L) (h : LRd w L) :
    Calls Tryd.prog 5 #[.agg (rq q L)] w fun e w' => (∃ M, e = .returned (.agg (rq q M)) ∧ LMk w' M ∧ LSa M L) ∧ Below w.heap.size w w' := by
  obtain ⟨id, kind, ver, bn, meth, pass, mech, cred, hasc, base, scope, deref, slim, tlim, typ, name, nrdn, dold, nsup, hsup, desc, val, hval, aband⟩ := q
  obtain ⟨xfa, xfc, xfs, xaa, xac, xal, xca, xcc, xcs, xta, xtc, xts, xka, xkc, xks⟩ := L
  dsimp only [rq]
  obtain ⟨wA, hwA⟩ : ∃ W, w.alloc (.cells #[.int .i64 id, .int .i64 kind, .int .i64 ver, .string bn, .int .i64 meth, .string pass, .string mech, .string cred, .bool hasc, .string base, .int .i64 scope, .int .i64 deref, .int .i64 slim, .int .i64 tlim, .bool typ, .slice xfa xfs.length xfc, .slice xaa xal.length xac, .string name, .slice xca xcs.length xcc, .slice xta xts.length xtc, .string nrdn, .bool dold, .string nsup, .bool hsup, .string desc, .string val, .bool hval, .int .i64 aband, .slice xka xks.length xkc] 36) = W := ⟨_, rfl⟩
  obtain ⟨W0, hW0⟩ : ∃ W, wA.alloc (.cells #[.int .i64 0, .int .i64 0, .int .i64 0, .string ⟨#[]⟩, .int .i64 0, .string ⟨#[]⟩, .string ⟨#[]⟩, .string ⟨#[]⟩, .bool false, .string ⟨#[]⟩, .int .i64 0, .int .i64 0, .int .i64 0, .int .i64 0, .bool false, .slice none 0 0, .slice none 0 0, .string ⟨#[]⟩, .slice none 0 0, .slice none 0 0, .string ⟨#[]⟩, .bool false, .string ⟨#[]⟩, .bool false, .string ⟨#[]⟩, .string ⟨#[]⟩, .bool false, .int .i64 0, .slice none 0 0] 36) = W := ⟨_, rfl⟩
  have na : wA.heap.size = w.heap.size + 1 := by rw [← hwA]; simp
  have p0 : Box W0 w.heap.size 36 #[.int .i64 id, .int .i64 kind, .int .i64 ver, .string bn, .int .i64 meth, .string pass, .string mech, .string cred, .bool hasc, .string base, .int .i64 scope, .int .i64 deref, .int .i64 slim, .int .i64 tlim, .bool typ, .slice xfa xfs.length xfc, .slice xaa xal.length xac, .string name, .slice xca xcs.length xcc, .slice xta xts.length xtc, .string nrdn, .bool dold, .string nsup, .bool hsup, .string desc, .string val, .bool hval, .int .i64 aband, .slice xka xks.length xkc] := by rw [← hW0]; exact Box.past (by rw [← hwA]; exact Box.new _ _ _) _
  have q0 : Box W0 (w.heap.size + 1) 36 #[.int .i64 0, .int .i64 0, .int .i64 0, .string ⟨#[]⟩, .int .i64 0, .string ⟨#[]⟩, .string ⟨#[]⟩, .string ⟨#[]⟩, .bool false, .string ⟨#[]⟩, .int .i64 0, .int .i64 0, .int .i64 0, .int .i64 0, .bool false, .slice none 0 0, .slice none 0 0, .string ⟨#[]⟩, .slice none 0 0, .slice none 0 0, .string ⟨#[]⟩, .bool false, .string ⟨#[]⟩, .bool false, .string ⟨#[]⟩, .string ⟨#[]⟩, .bool false, .int .i64 0, .slice none 0 0] := by rw [← hW0, ← na]; exact Box.new _ _ _
  have B0 : Below w.heap.size w W0 := by
    rw [← hW0, ← hwA]
    exact ((Below.refl _ _).alloc (Nat.le_refl _) _).alloc (by simp) _
  have h' : Hid (LRd w ⟨xfa, xfc, xfs, xaa, xac, xal, xca, xcc, xcs, xta, xtc, xts, xka, xkc, xks⟩ ∧ LSm ⟨xfa, xfc, xfs, xaa, xac, xal, xca, xcc, xcs, xta, xtc, xts, xka, xkc, xks⟩) := ⟨h, hm⟩
  clear h hm
  go_enter Tryd.func5, Tryd.ntmps5
  go_upto_region 1 with fail
  clear hwA hW0 na
  have s0 : w.heap.size + 1 < W0.heap.size := q0.lt
  have hC1 : Hid (Calls Tryd.prog 12 #[.slice xfa xfs.length xfc] W0 fun e w' => (∃ g cap ys, e = .returned (.slice (some ⟨g, 0, none⟩) xfs.length cap) ∧ (∀ W, Agr W0.heap.size w' W → MkG 9 nV nT zNo W (some ⟨g, 0, none⟩) cap ys) ∧ ys.map np = xfs.map np) ∧ Below W0.heap.size W0 w') := nodes_any xfs xfa xfc W0 h'.out.2.1.1 h'.out.2.1.2 (h'.out.1.below B0).1
  have c1 : W0.cell? ⟨w.heap.size, 15, none⟩ = some (.slice xfa xfs.length xfc) := (p0.cell 15 (by simp)).1
  go_upto_region 2 with (go_at_call 12; refine hC1.out.mono ?_; rintro e w1 ⟨⟨g1, k1, y1, rfl, hM1, hp1⟩, hb1⟩; have f1 : w1.cell? ⟨w.heap.size, 15, none⟩ = some (.slice xfa xfs.length xfc) := ((p0.below hb1).cell 15 (by simp)).1; have z1 : w1.frozen? ⟨w.heap.size, 15, none⟩ = false := ((p0.below hb1).cell 15 (by simp)).2)
  obtain ⟨W1, hW1⟩ : ∃ W, w1.setCell ⟨w.heap.size, 15, none⟩ (.slice (some ⟨g1, 0, none⟩) xfs.length k1) = W := ⟨_, rfl⟩
  rw [hW1]
  have p1 : Box W1 w.heap.size 36 #[.int .i64 id, .int .i64 kind, .int .i64 ver, .string bn, .int .i64 meth, .string pass, .string mech, .string cred, .bool hasc, .string base, .int .i64 scope, .int .i64 deref, .int .i64 slim, .int .i64 tlim, .bool typ, .slice (some ⟨g1, 0, none⟩) xfs.length k1, .slice xaa xal.length xac, .string name, .slice xca xcs.length xcc, .slice xta xts.length xtc, .string nrdn, .bool dold, .string nsup, .bool hsup, .string desc, .string val, .bool hval, .int .i64 aband, .slice xka xks.length xkc] := by rw [← hW1]; exact (p0.below hb1).set 15 _
  have q1 : Box W1 (w.heap.size + 1) 36 #[.int .i64 0, .int .i64 0, .int .i64 0, .string ⟨#[]⟩, .int .i64 0, .string ⟨#[]⟩, .string ⟨#[]⟩, .string ⟨#[]⟩, .bool false, .string ⟨#[]⟩, .int .i64 0, .int .i64 0, .int .i64 0, .int .i64 0, .bool false, .slice none 0 0, .slice none 0 0, .string ⟨#[]⟩, .slice none 0 0, .slice none 0 0, .string ⟨#[]⟩, .bool false, .string ⟨#[]⟩, .bool false, .string ⟨#[]⟩, .string ⟨#[]⟩, .bool false, .int .i64 0, .slice none 0 0] := by rw [← hW1]; exact (q0.below hb1).of (Below.heap_setCell _ _ _ _ (by show w.heap.size + 1 ≠ w.heap.size; omega))
  have B1 : Below w.heap.size w W1 := by rw [← hW1]; exact (B0.trans (hb1.mono (by omega))).setCell (p := ⟨w.heap.size, 15, none⟩) (Nat.le_refl _) _
  have kp1 : Kp w.heap.size w1 W1 := by rw [← hW1]; exact Kp.set _ _ _ _
  have kq1 : Kp w.heap.size W0 W1 := (Kp.below hb1).trans kp1
  have Q1 : Hid (Qn w.heap.size (fun W => MkG 9 nV nT zNo W (some ⟨g1, 0, none⟩) k1 y1) W1) := fun W hW => hM1 W ((kp1.trans hW).agr s0)
  have s1 : w.heap.size + 1 < W1.heap.size := q1.lt
  clear hC1 c1 f1 z1 hW1 p0 q0 B0 kp1 kq1 hb1 hM1 s0
  have hC2 : Hid (Calls Tryd.prog 13 #[.slice xaa xal.length xac] W1 fun e w' => ∃ g cap, e = .returned (.slice (some ⟨g, 0, none⟩) xal.length cap) ∧ Mkd w' W1.heap.size g cap xal ∧ Below W1.heap.size W1 w') := texts_any xal xaa xac W1 h'.out.2.2.1 (h'.out.1.below B1).2.1
  have c2 : W1.cell? ⟨w.heap.size, 16, none⟩ = some (.slice xaa xal.length xac) := (p1.cell 16 (by simp)).1
  go_upto_region 3 with (go_at_call 13; refine hC2.out.mono ?_; rintro e w2 ⟨g2, k2, rfl, hM2, hb2⟩; have f2 : w2.cell? ⟨w.heap.size, 16, none⟩ = some (.slice xaa xal.length xac) := ((p1.below hb2).cell 16 (by simp)).1; have z2 : w2.frozen? ⟨w.heap.size, 16, none⟩ = false := ((p1.below hb2).cell 16 (by simp)).2)
  obtain ⟨W2, hW2⟩ : ∃ W, w2.setCell ⟨w.heap.size, 16, none⟩ (.slice (some ⟨g2, 0, none⟩) xal.length k2) = W := ⟨_, rfl⟩
  rw [hW2]
  have p2 : Box W2 w.heap.size 36 #[.int .i64 id, .int .i64 kind, .int .i64 ver, .string bn, .int .i64 meth, .string pass, .string mech, .string cred, .bool hasc, .string base, .int .i64 scope, .int .i64 deref, .int .i64 slim, .int .i64 tlim, .bool typ, .slice (some ⟨g1, 0, none⟩) xfs.length k1, .slice (some ⟨g2, 0, none⟩) xal.length k2, .string name, .slice xca xcs.length xcc, .slice xta xts.length xtc, .string nrdn, .bool dold, .string nsup, .bool hsup, .string desc, .string val, .bool hval, .int .i64 aband, .slice xka xks.length xkc] := by rw [← hW2]; exact (p1.below hb2).set 16 _
  have q2 : Box W2 (w.heap.size + 1) 36 #[.int .i64 0, .int .i64 0, .int .i64 0, .string ⟨#[]⟩, .int .i64 0, .string ⟨#[]⟩, .string ⟨#[]⟩, .string ⟨#[]⟩, .bool false, .string ⟨#[]⟩, .int .i64 0, .int .i64 0, .int .i64 0, .int .i64 0, .bool false, .slice none 0 0, .slice none 0 0, .string ⟨#[]⟩, .slice none 0 0, .slice none 0 0, .string ⟨#[]⟩, .bool false, .string ⟨#[]⟩, .bool false, .string ⟨#[]⟩, .string ⟨#[]⟩, .bool false, .int .i64 0, .slice none 0 0] := by rw [← hW2]; exact (q1.below hb2).of (Below.heap_setCell _ _ _ _ (by show w.heap.size + 1 ≠ w.heap.size; omega))
  have B2 : Below w.heap.size w W2 := by rw [← hW2]; exact (B1.trans (hb2.mono (by omega))).setCell (p := ⟨w.heap.size, 16, none⟩) (Nat.le_refl _) _
  have kp2 : Kp w.heap.size w2 W2 := by rw [← hW2]; exact Kp.set _ _ _ _
  have kq2 : Kp w.heap.size W1 W2 := (Kp.below hb2).trans kp2
  have Q2 : Hid (Qn w.heap.size (fun W => MkT W (some ⟨g2, 0, none⟩) k2 xal) W2) := fun W hW => (hM2.of (((kp2.trans hW).agr s1) g2 hM2.lt.1 hM2.lt.2.1)).read
  replace Q1 : Hid (Qn w.heap.size (fun W => MkG 9 nV nT zNo W (some ⟨g1, 0, none⟩) k1 y1) W2) := Q1.out.next kq2
  have s2 : w.heap.size + 1 < W2.heap.size := q2.lt
  clear hC2 c2 f2 z2 hW2 p1 q1 B1 kp2 kq2 hb2 hM2 s1
  have hC3 : Hid (Calls Tryd.prog 14 #[.slice xca xcs.length xcc] W2 fun e w' => (∃ g cap ys, e = .returned (.slice (some ⟨g, 0, none⟩) xcs.length cap) ∧ (∀ W, Agr W2.heap.size w' W → MkG 3 cV cT zCh W (some ⟨g, 0, none⟩) cap ys) ∧ ys.map cP = xcs.map cP) ∧ Below W2.heap.size W2 w') := changes_any xcs xca xcc W2 h'.out.2.2.2.1.1 h'.out.2.2.2.1.2 (h'.out.1.below B2).2.2.1
  have c3 : W2.cell? ⟨w.heap.size, 18, none⟩ = some (.slice xca xcs.length xcc) := (p2.cell 18 (by simp)).1
  go_upto_region 4 with (go_at_call 14; refine hC3.out.mono ?_; rintro e w3 ⟨⟨g3, k3, y3, rfl, hM3, hp3⟩, hb3⟩; have f3 : w3.cell? ⟨w.heap.size, 18, none⟩ = some (.slice xca xcs.length xcc) := ((p2.below hb3).cell 18 (by simp)).1; have z3 : w3.frozen? ⟨w.heap.size, 18, none⟩ = false := ((p2.below hb3).cell 18 (by simp)).2)
  obtain ⟨W3, hW3⟩ : ∃ W, w3.setCell ⟨w.heap.size, 18, none⟩ (.slice (some ⟨g3, 0, none⟩) xcs.length k3) = W := ⟨_, rfl⟩
  rw [hW3]
  have p3 : Box W3 w.heap.size 36 #[.int .i64 id, .int .i64 kind, .int .i64 ver, .string bn, .int .i64 meth, .string pass, .string mech, .string cred, .bool hasc, .string base, .int .i64 scope, .int .i64 deref, .int .i64 slim, .int .i64 tlim, .bool typ, .slice (some ⟨g1, 0, none⟩) xfs.length k1, .slice (some ⟨g2, 0, none⟩) xal.length k2, .string name, .slice (some ⟨g3, 0, none⟩) xcs.length k3, .slice xta xts.length xtc, .string nrdn, .bool dold, .string nsup, .bool hsup, .string desc, .string val, .bool hval, .int .i64 aband, .slice xka xks.length xkc] := by rw [← hW3]; exact (p2.below hb3).set 18 _
  have q3 : Box W3 (w.heap.size + 1) 36 #[.int .i64 0, .int .i64 0, .int .i64 0, .string ⟨#[]⟩, .int .i64 0, .string ⟨#[]⟩, .string ⟨#[]⟩, .string ⟨#[]⟩, .bool false, .string ⟨#[]⟩, .int .i64 0, .int .i64 0, .int .i64 0, .int .i64 0, .bool false, .slice none 0 0, .slice none 0 0, .string ⟨#[]⟩, .slice none 0 0, .slice none 0 0, .string ⟨#[]⟩, .bool false, .string ⟨#[]⟩, .bool false, .string ⟨#[]⟩, .string ⟨#[]⟩, .bool false, .int .i64 0, .slice none 0 0] := by rw [← hW3]; exact (q2.below hb3).of (Below.heap_setCell _ _ _ _ (by show w.heap.size + 1 ≠ w.heap.size; omega))
  have B3 : Below w.heap.size w W3 := by rw [← hW3]; exact (B2.trans (hb3.mono (by omega))).setCell (p := ⟨w.heap.size, 18, none⟩) (Nat.le_refl _) _
  have kp3 : Kp w.heap.size w3 W3 := by rw [← hW3]; exact Kp.set _ _ _ _
  have kq3 : Kp w.heap.size W2 W3 := (Kp.below hb3).trans kp3
  have Q3 : Hid (Qn w.heap.size (fun W => MkG 3 cV cT zCh W (some ⟨g3, 0, none⟩) k3 y3) W3) := fun W hW => hM3 W ((kp3.trans hW).agr s2)
  replace Q1 : Hid (Qn w.heap.size (fun W => MkG 9 nV nT zNo W (some ⟨g1, 0, none⟩) k1 y1) W3) := Q1.out.next kq3
  replace Q2 : Hid (Qn w.heap.size (fun W => MkT W (some ⟨g2, 0, none⟩) k2 xal) W3) := Q2.out.next kq3
  have s3 : w.heap.size + 1 < W3.heap.size := q3.lt
  clear hC3 c3 f3 z3 hW3 p2 q2 B2 kp3 kq3 hb3 hM3 s2
  have hC4 : Hid (Calls Tryd.prog 15 #[.slice xta xts.length xtc] W3 fun e w' => (∃ g cap ys, e = .returned (.slice (some ⟨g, 0, none⟩) xts.length cap) ∧ (∀ W, Agr W3.heap.size w' W → MkG 3 tV tT zAt W (some ⟨g, 0, none⟩) cap ys) ∧ ys.map tP = xts.map tP) ∧ Below W3.heap.size W3 w') := attrs_any xts xta xtc W3 h'.out.2.2.2.2.1.1 h'.out.2.2.2.2.1.2 (h'.out.1.below B3).2.2.2.1
  have c4 : W3.cell? ⟨w.heap.size, 19, none⟩ = some (.slice xta xts.length xtc) := (p3.cell 19 (by simp)).1
  go_upto_region 5 with (go_at_call 15; refine hC4.out.mono ?_; rintro e w4 ⟨⟨g4, k4, y4, rfl, hM4, hp4⟩, hb4⟩; have f4 : w4.cell? ⟨w.heap.size, 19, none⟩ = some (.slice xta xts.length xtc) := ((p3.below hb4).cell 19 (by simp)).1; have z4 : w4.frozen? ⟨w.heap.size, 19, none⟩ = false := ((p3.below hb4).cell 19 (by simp)).2)
  obtain ⟨W4, hW4⟩ : ∃ W, w4.setCell ⟨w.heap.size, 19, none⟩ (.slice (some ⟨g4, 0, none⟩) xts.length k4) = W := ⟨_, rfl⟩
  rw [hW4]
  have p4 : Box W4 w.heap.size 36 #[.int .i64 id, .int .i64 kind, .int .i64 ver, .string bn, .int .i64 meth, .string pass, .string mech, .string cred, .bool hasc, .string base, .int .i64 scope, .int .i64 deref, .int .i64 slim, .int .i64 tlim, .bool typ, .slice (some ⟨g1, 0, none⟩) xfs.length k1, .slice (some ⟨g2, 0, none⟩) xal.length k2, .string name, .slice (some ⟨g3, 0, none⟩) xcs.length k3, .slice (some ⟨g4, 0, none⟩) xts.length k4, .string nrdn, .bool dold, .string nsup, .bool hsup, .string desc, .string val, .bool hval, .int .i64 aband, .slice xka xks.length xkc] := by rw [← hW4]; exact (p3.below hb4).set 19 _
  have q4 : Box W4 (w.heap.size + 1) 36 #[.int .i64 0, .int .i64 0, .int .i64 0, .string ⟨#[]⟩, .int .i64 0, .string ⟨#[]⟩, .string ⟨#[]⟩, .string ⟨#[]⟩, .bool false, .string ⟨#[]⟩, .int .i64 0, .int .i64 0, .int .i64 0, .int .i64 0, .bool false, .slice none 0 0, .slice none 0 0, .string ⟨#[]⟩, .slice none 0 0, .slice none 0 0, .string ⟨#[]⟩, .bool false, .string ⟨#[]⟩, .bool false, .string ⟨#[]⟩, .string ⟨#[]⟩, .bool false, .int .i64 0, .slice none 0 0] := by rw [← hW4]; exact (q3.below hb4).of (Below.heap_setCell _ _ _ _ (by show w.heap.size + 1 ≠ w.heap.size; omega))
  have B4 : Below w.heap.size w W4 := by rw [← hW4]; exact (B3.trans (hb4.mono (by omega))).setCell (p := ⟨w.heap.size, 19, none⟩) (Nat.le_refl _) _
  have kp4 : Kp w.heap.size w4 W4 := by rw [← hW4]; exact Kp.set _ _ _ _
  have kq4 : Kp w.heap.size W3 W4 := (Kp.below hb4).trans kp4
  have Q4 : Hid (Qn w.heap.size (fun W => MkG 3 tV tT zAt W (some ⟨g4, 0, none⟩) k4 y4) W4) := fun W hW => hM4 W ((kp4.trans hW).agr s3)
  replace Q1 : Hid (Qn w.heap.size (fun W => MkG 9 nV nT zNo W (some ⟨g1, 0, none⟩) k1 y1) W4) := Q1.out.next kq4
  replace Q2 : Hid (Qn w.heap.size (fun W => MkT W (some ⟨g2, 0, none⟩) k2 xal) W4) := Q2.out.next kq4
  replace Q3 : Hid (Qn w.heap.size (fun W => MkG 3 cV cT zCh W (some ⟨g3, 0, none⟩) k3 y3) W4) := Q3.out.next kq4
  have s4 : w.heap.size + 1 < W4.heap.size := q4.lt
  clear hC4 c4 f4 z4 hW4 p3 q3 B3 kp4 kq4 hb4 hM4 s3
  have hC5 : Hid (Calls Tryd.prog 16 #[.slice xka xks.length xkc] W4 fun e w' => ∃ g cap, e = .returned (.slice (some ⟨g, 0, none⟩) xks.length cap) ∧ ((∀ W, Agr W4.heap.size w' W → GRow 4 oV W (some ⟨g, 0, none⟩) (xks ++ [zCt])) ∧ xks.length + 1 ≤ cap) ∧ Below W4.heap.size W4 w') := controls_any xks xka xkc W4 h'.out.2.2.2.2.2 (h'.out.1.below B4).2.2.2.2
  have c5 : W4.cell? ⟨w.heap.size, 28, none⟩ = some (.slice xka xks.length xkc) := (p4.cell 28 (by simp)).1
  go_upto_region 6 with (go_at_call 16; refine hC5.out.mono ?_; rintro e w5 ⟨g5, k5, rfl, ⟨hM5, hc5⟩, hb5⟩; have f5 : w5.cell? ⟨w.heap.size, 28, none⟩ = some (.slice xka xks.length xkc) := ((p4.below hb5).cell 28 (by simp)).1; have z5 : w5.frozen? ⟨w.heap.size, 28, none⟩ = false := ((p4.below hb5).cell 28 (by simp)).2)
  obtain ⟨W5, hW5⟩ : ∃ W, w5.setCell ⟨w.heap.size, 28, none⟩ (.slice (some ⟨g5, 0, none⟩) xks.length k5) = W := ⟨_, rfl⟩
  rw [hW5]
  have p5 : Box W5 w.heap.size 36 #[.int .i64 id, .int .i64 kind, .int .i64 ver, .string bn, .int .i64 meth, .string pass, .string mech, .string cred, .bool hasc, .string base, .int .i64 scope, .int .i64 deref, .int .i64 slim, .int .i64 tlim, .bool typ, .slice (some ⟨g1, 0, none⟩) xfs.length k1, .slice (some ⟨g2, 0, none⟩) xal.length k2, .string name, .slice (some ⟨g3, 0, none⟩) xcs.length k3, .slice (some ⟨g4, 0, none⟩) xts.length k4, .string nrdn, .bool dold, .string nsup, .bool hsup, .string desc, .string val, .bool hval, .int .i64 aband, .slice (some ⟨g5, 0, none⟩) xks.length k5] := by rw [← hW5]; exact (p4.below hb5).set 28 _
  have q5 : Box W5 (w.heap.size + 1) 36 #[.int .i64 0, .int .i64 0, .int .i64 0, .string ⟨#[]⟩, .int .i64 0, .string ⟨#[]⟩, .string ⟨#[]⟩, .string ⟨#[]⟩, .bool false, .string ⟨#[]⟩, .int .i64 0, .int .i64 0, .int .i64 0, .int .i64 0, .bool false, .slice none 0 0, .slice none 0 0, .string ⟨#[]⟩, .slice none 0 0, .slice none 0 0, .string ⟨#[]⟩, .bool false, .string ⟨#[]⟩, .bool false, .string ⟨#[]⟩, .string ⟨#[]⟩, .bool false, .int .i64 0, .slice none 0 0] := by rw [← hW5]; exact (q4.below hb5).of (Below.heap_setCell _ _ _ _ (by show w.heap.size + 1 ≠ w.heap.size; omega))
  have B5 : Below w.heap.size w W5 := by rw [← hW5]; exact (B4.trans (hb5.mono (by omega))).setCell (p := ⟨w.heap.size, 28, none⟩) (Nat.le_refl _) _
  have kp5 : Kp w.heap.size w5 W5 := by rw [← hW5]; exact Kp.set _ _ _ _
  have kq5 : Kp w.heap.size W4 W5 := (Kp.below hb5).trans kp5
  have Q5 : Hid (Qn w.heap.size (fun W => GRow 4 oV W (some ⟨g5, 0, none⟩) (xks ++ [zCt]) ∧ xks.length + 1 ≤ k5) W5) := fun W hW => ⟨hM5 W ((kp5.trans hW).agr s4), hc5⟩
  replace Q1 : Hid (Qn w.heap.size (fun W => MkG 9 nV nT zNo W (some ⟨g1, 0, none⟩) k1 y1) W5) := Q1.out.next kq5
  replace Q2 : Hid (Qn w.heap.size (fun W => MkT W (some ⟨g2, 0, none⟩) k2 xal) W5) := Q2.out.next kq5
  replace Q3 : Hid (Qn w.heap.size (fun W => MkG 3 cV cT zCh W (some ⟨g3, 0, none⟩) k3 y3) W5) := Q3.out.next kq5
  replace Q4 : Hid (Qn w.heap.size (fun W => MkG 3 tV tT zAt W (some ⟨g4, 0, none⟩) k4 y4) W5) := Q4.out.next kq5
  have s5 : w.heap.size + 1 < W5.heap.size := q5.lt
  clear hC5 c5 f5 z5 hW5 p4 q4 B4 kp5 kq5 hb5 hM5 s4
  have hfin : Hid (Qn w.heap.size (fun W => LMk W ⟨some ⟨g1, 0, none⟩, k1, y1, some ⟨g2, 0, none⟩, k2, xal, some ⟨g3, 0, none⟩, k3, y3, some ⟨g4, 0, none⟩, k4, y4, some ⟨g5, 0, none⟩, k5, xks⟩) W5) := fun W hW => ⟨Q1.out W hW, Q2.out W hW, Q3.out W hW, Q4.out W hW, Q5.out W hW⟩
  have hsa : Hid (LSa ⟨some ⟨g1, 0, none⟩, k1, y1, some ⟨g2, 0, none⟩, k2, xal, some ⟨g3, 0, none⟩, k3, y3, some ⟨g4, 0, none⟩, k4, y4, some ⟨g5, 0, none⟩, k5, xks⟩ ⟨xfa, xfc, xfs, xaa, xac, xal, xca, xcc, xcs, xta, xtc, xts, xka, xkc, xks⟩) := ⟨hp1, rfl, hp3, hp4, rfl⟩
  have l1 : Hid (y1.length = xfs.length) := by unfold Hid; simpa using congrArg List.length hp1
  have l3 : Hid (y3.length = xcs.length) := by unfold Hid; simpa using congrArg List.length hp3
  have l4 : Hid (y4.length = xts.length) := by unfold Hid; simpa using congrArg List.length hp4
  clear Q1 Q2 Q3 Q4 Q5 hp1 hp3 hp4 h'
  have h1c : (#[.int .i64 id, .int .i64 kind, .int .i64 ver, .string bn, .int .i64 meth, .string pass, .string mech, .string cred, .bool hasc, .string base, .int .i64 scope, .int .i64 deref, .int .i64 slim, .int .i64 tlim, .bool typ, .slice (some ⟨g1, 0, none⟩) xfs.length k1, .slice (some ⟨g2, 0, none⟩) xal.length k2, .string name, .slice (some ⟨g3, 0, none⟩) xcs.length k3, .slice (some ⟨g4, 0, none⟩) xts.length k4, .string nrdn, .bool dold, .string nsup, .bool hsup, .string desc, .string val, .bool hval, .int .i64 aband, .slice (some ⟨g5, 0, none⟩) xks.length k5] : Array Value).all (·.oneCell') = true := by simp [Value.oneCell']
  go_wp2_with (first | (refine load_req rfl _ rfl w.heap.size rfl p5 rfl ?_) | (refine store_req rfl _ _ rfl (w.heap.size + 1) #[.int .i64 id, .int .i64 kind, .int .i64 ver, .string bn, .int .i64 meth, .string pass, .string mech, .string cred, .bool hasc, .string base, .int .i64 scope, .int .i64 deref, .int .i64 slim, .int .i64 tlim, .bool typ, .slice (some ⟨g1, 0, none⟩) xfs.length k1, .slice (some ⟨g2, 0, none⟩) xal.length k2, .string name, .slice (some ⟨g3, 0, none⟩) xcs.length k3, .slice (some ⟨g4, 0, none⟩) xts.length k4, .string nrdn, .bool dold, .string nsup, .bool hsup, .string desc, .string val, .bool hval, .int .i64 aband, .slice (some ⟨g5, 0, none⟩) xks.length k5] rfl rfl q5 rfl rfl h1c ?_))
  exact bodyPost_ret (results_cell _ _ _ rfl _ _ _ _ _ rfl (ld_req (box_row q5) rfl)) rfl ⟨⟨⟨some ⟨g1, 0, none⟩, k1, y1, some ⟨g2, 0, none⟩, k2, xal, some ⟨g3, 0, none⟩, k3, y3, some ⟨g4, 0, none⟩, k4, y4, some ⟨g5, 0, none⟩, k5, xks⟩, by dsimp only [rq]; rw [l1.out, l3.out, l4.out], hfin.out _ (kp_row _ _ _ _ rfl), hsa.out⟩, below_row B5 (by omega) _⟩
end Go.Proofs.YtembeinglnojkaaDoor
