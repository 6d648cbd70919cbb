import Derived.Test.YtofghgggllfafaaDoorFgRmW
namespace Go.Proofs.YtofghgggllfafaaDoor
open Go.RowKit
set_option linter.unusedVariables false

theorem info_nsz : (Tryd.prog.info? 38).map (·.size) = some 9 := by kernel_rfl
theorem store_n {ops : Array Oper} {rest : List Oper} {o : Oper} {a : Act} {w : World} {Q : Exit → Act → World → Prop} (hgd : o.guard = none) (x y : Operand) (ho : o.op = .store 38 x y)
    (g : Nat) (cells : Array Value) (hx : a.eval x = .pointer (some ⟨g, 0, none⟩)) (hy : a.eval y = .agg cells) {old : Array Value} (hg : Box w g 38 old) (ho1 : old.size = 9) (ho2 : cells.size = 9) (h1 : cells.all (·.oneCell') = true)
    (h : wpList Tryd.prog ops Q rest (a.put o.dst undef) (w.setRow g cells)) : wpList Tryd.prog ops Q (o :: rest) a w :=
  wpList_store_row hgd 38 x y ho g cells hx hy 38 old hg (by rw [ho2]; exact info_nsz) (by rw [ho1, ho2]) h1 h
theorem load_n {ops : Array Oper} {rest : List Oper} {o : Oper} {a : Act} {w : World} {Q : Exit → Act → World → Prop} (hgd : o.guard = none) (x : Operand) (ho : o.op = .load 38 x)
    (g : Nat) (hx : a.eval x = .pointer (some ⟨g, 0, none⟩)) {cs : Array Value} (hg : Box w g 38 cs) (hs : cs.size = 9)
    (h : wpList Tryd.prog ops Q rest (a.put o.dst (.agg cs)) w) : wpList Tryd.prog ops Q (o :: rest) a w :=
  wpList_load_row hgd 38 x ho g hx 38 cs (0, 0) _ hg Tryd.underlying38 rfl (by rw [hs]; exact info_nsz) h
theorem ld_n {W : World} {g : Nat} {cs : Array Value} (h : Box W g 38 cs) (hs : cs.size = 9) : (loadVar 38 ⟨g, 0, none⟩).run Tryd.prog W = .ok (.agg cs) W :=
  run_loadVar_row W g 38 38 _ (0, 0) _ h Tryd.underlying38 rfl (by rw [hs]; exact info_nsz)
theorem box_row {W : World} {g : Nat} {t : TypeId} {cs cs' : Array Value} (h : Box W g t cs) : Box (W.setRow g cs') g t cs' := setRow_heap W g cs cs' t (0, 0) h
theorem below_row {w W : World} {B g : Nat} (h : Below B w W) (hg : B ≤ g) (cs : Array Value) : Below B w (W.setRow g cs) := by
  obtain ⟨a1, a2, a3, a4, a5⟩ := h
  refine ⟨a1, a2, a3, ?_, fun b hb => ?_⟩
  · have : (W.setRow g cs).heap.size = W.heap.size := by simp [World.setRow]
    rw [this]
    exact a4
  · have := a5 b hb
    rw [← this]
    simp only [World.setRow]
    rw [Array.getElem?_modify, if_neg (fun e => by omega)]
theorem heap_row (W : World) (g b : Nat) (cs : Array Value) (h : b ≠ g) : (W.setRow g cs).heap[b]? = W.heap[b]? := by
  simp only [World.setRow]
  rw [Array.getElem?_modify, if_neg (fun e => h e.symm)]

set_option maxRecDepth 100000 in
set_option maxHeartbeats 2000000 in
theorem placed_any (x : Nod) (d : Int) (w : World) (hl : x.l.length ≤ 1048576) (h : Row w x.a x.l) :
    Calls Tryd.prog 25 #[.agg (nA x), .int .i64 d] w fun e w' => (∃ y : Nod, e = .returned (.agg (nA y)) ∧ np y = np { x with dep := d } ∧ OwnS w' w.heap.size (.slice y.a y.l.length y.n) y.l) ∧ Below w.heap.size w w' := by
  obtain ⟨xd, xo, xs, xv, xi, xa, xn, xl, xf, xr, xb⟩ := x
  dsimp only [nA] at hl h ⊢
  obtain ⟨wA, hwA⟩ : ∃ W, w.alloc (.cells #[.int .i64 xd, .int .i64 xo, .string (S xs), .string (S xv), .string (S xi), .slice xa xl.length xn, .string (S xf), .string (S xr), .bool xb] 38) = W := ⟨_, rfl⟩
  obtain ⟨wB, hwB⟩ : ∃ W, wA.alloc (.cells #[.int .i64 0, .int .i64 0, .string ⟨#[]⟩, .string ⟨#[]⟩, .string ⟨#[]⟩, .slice none 0 0, .string ⟨#[]⟩, .string ⟨#[]⟩, .bool false] 38) = W := ⟨_, rfl⟩
  have na : wA.heap.size = w.heap.size + 1 := by rw [← hwA]; simp
  have p0 : Box wB w.heap.size 38 #[.int .i64 xd, .int .i64 xo, .string (S xs), .string (S xv), .string (S xi), .slice xa xl.length xn, .string (S xf), .string (S xr), .bool xb] := by rw [← hwB]; exact Box.past (by rw [← hwA]; exact Box.new _ _ _) _
  have q0 : Box wB (w.heap.size + 1) 38 #[.int .i64 0, .int .i64 0, .string ⟨#[]⟩, .string ⟨#[]⟩, .string ⟨#[]⟩, .slice none 0 0, .string ⟨#[]⟩, .string ⟨#[]⟩, .bool false] := by rw [← hwB, ← na]; exact Box.new _ _ _
  have B0 : Below w.heap.size w wB := by
    rw [← hwB, ← hwA]
    exact ((Below.refl _ _).alloc (Nat.le_refl _) _).alloc (by simp) _
  obtain ⟨W1, hW1⟩ : ∃ W, wB.setCell ⟨w.heap.size, 0, none⟩ (.int .i64 d) = W := ⟨_, rfl⟩
  have p1 : Box W1 w.heap.size 38 #[.int .i64 d, .int .i64 xo, .string (S xs), .string (S xv), .string (S xi), .slice xa xl.length xn, .string (S xf), .string (S xr), .bool xb] := by rw [← hW1]; exact p0.set 0 _
  have q1 : Box W1 (w.heap.size + 1) 38 #[.int .i64 0, .int .i64 0, .string ⟨#[]⟩, .string ⟨#[]⟩, .string ⟨#[]⟩, .slice none 0 0, .string ⟨#[]⟩, .string ⟨#[]⟩, .bool false] := by rw [← hW1]; exact q0.of (Below.heap_setCell _ _ _ _ (by show w.heap.size + 1 ≠ w.heap.size; omega))
  have B1 : Below w.heap.size w W1 := by rw [← hW1]; exact B0.setCell (p := ⟨w.heap.size, 0, none⟩) (Nat.le_refl _) _
  obtain ⟨v2, w2, hr2, ho2, hb2⟩ := append_row W1 W1.heap.size _ [] xl xa xl.length xn (ownS_nil _ _) (h.below B1) rfl (Nat.le_refl _) (by simp; omega)
  rw [List.nil_append] at ho2
  obtain ⟨va, vc, rfl, _⟩ := owns_slice (show World.ownsRow _ _ 9 1 _ _ _ from ho2)
  have p2 := p1.below hb2
  have q2 := q1.below hb2
  obtain ⟨W3, hW3⟩ : ∃ W, w2.setCell ⟨w.heap.size, 5, none⟩ (.slice va xl.length vc) = W := ⟨_, rfl⟩
  have p3 : Box W3 w.heap.size 38 #[.int .i64 d, .int .i64 xo, .string (S xs), .string (S xv), .string (S xi), .slice va xl.length vc, .string (S xf), .string (S xr), .bool xb] := by rw [← hW3]; exact p2.set 5 _
  have q3 : Box W3 (w.heap.size + 1) 38 #[.int .i64 0, .int .i64 0, .string ⟨#[]⟩, .string ⟨#[]⟩, .string ⟨#[]⟩, .slice none 0 0, .string ⟨#[]⟩, .string ⟨#[]⟩, .bool false] := by rw [← hW3]; exact q2.of (Below.heap_setCell _ _ _ _ (by show w.heap.size + 1 ≠ w.heap.size; omega))
  have B3 : Below w.heap.size w W3 := by rw [← hW3]; exact (B1.trans (hb2.mono (by have := B1.size; omega))).setCell (p := ⟨w.heap.size, 5, none⟩) (Nat.le_refl _) _
  have s1 : w.heap.size + 1 < W1.heap.size := q1.lt
  have hO : ∀ cs, OwnS (W3.setRow (w.heap.size + 1) cs) w.heap.size (.slice va xl.length vc) xl := fun cs => owns_base (owns_same (show w2.ownsRow W1.heap.size 9 1 _ _ _ from ho2) (fun b hb => by
    have := (World.ownsRow.lt (show w2.ownsRow W1.heap.size 9 1 _ _ _ from ho2) b hb).1
    rw [heap_row _ _ _ _ (by omega), ← hW3]
    exact Below.heap_setCell _ _ _ _ (by show b ≠ w.heap.size; omega))) (by omega)
  have f0 : wB.cell? ⟨w.heap.size, 0, none⟩ = some (.int .i64 xd) := (p0.cell 0 (by simp)).1
  have z0 : wB.frozen? ⟨w.heap.size, 0, none⟩ = false := (p0.cell 0 (by simp)).2
  have f1 : W1.cell? ⟨w.heap.size, 5, none⟩ = some (.slice xa xl.length xn) := (p1.cell 5 (by simp)).1
  have f2 : w2.cell? ⟨w.heap.size, 5, none⟩ = some (.slice xa xl.length xn) := (p2.cell 5 (by simp)).1
  have z2 : w2.frozen? ⟨w.heap.size, 5, none⟩ = false := (p2.cell 5 (by simp)).2
  have h1c : (#[.int .i64 d, .int .i64 xo, .string (S xs), .string (S xv), .string (S xi), .slice va xl.length vc, .string (S xf), .string (S xr), .bool xb] : Array Value).all (·.oneCell') = true := by simp [Value.oneCell']
  have K1 : Hid (wB.setCell ⟨w.heap.size, 0, none⟩ (.int .i64 d) = W1) := hW1
  have K3 : Hid (w2.setCell ⟨w.heap.size, 5, none⟩ (.slice va xl.length vc) = W3) := hW3
  have hfin : Hid ((∀ cs, OwnS (W3.setRow (w.heap.size + 1) cs) w.heap.size (.slice va xl.length vc) xl) ∧ Below w.heap.size w W3) := ⟨hO, B3⟩
  clear p0 q0 B0 p1 q1 B1 ho2 hb2 p2 q2 B3 s1 hO hW1 hW3 h hl
  go_enter Tryd.func25, Tryd.ntmps25
  go_upto_region 1 with fail
  clear hwA hwB na
  go_upto_region 2 with fail
  rw [K1.out]
  clear f0 z0
  go_upto_region 3 with (at_builtin; refine Lib.wpList_append_run _ rfl _ _ _ _ rfl _ _ rfl rfl _ _ hr2 ?_)
  rw [K3.out]
  clear hr2 f1 f2 z2
  go_wp2_with (first | (refine load_n rfl _ rfl w.heap.size rfl p3 rfl ?_) | (refine store_n rfl _ _ rfl (w.heap.size + 1) #[.int .i64 d, .int .i64 xo, .string (S xs), .string (S xv), .string (S xi), .slice va xl.length vc, .string (S xf), .string (S xr), .bool xb] rfl rfl q3 rfl rfl h1c ?_))
  exact bodyPost_ret (results_cell _ _ _ rfl _ _ _ _ _ rfl (ld_n (box_row q3) rfl)) rfl ⟨⟨⟨d, xo, xs, xv, xi, va, vc, xl, xf, xr, xb⟩, rfl, rfl, hfin.out.1 _⟩, below_row hfin.out.2 (by omega) _⟩

theorem mk_nods (N : Nat) (hN : N ≤ 1048576) (W : World) : (Instr.makeSlice 23 (.int .i64 0) (.int .i64 (N : Int))).run Tryd.prog W = .ok (.slice (some ⟨W.heap.size, 0, none⟩) 0 N) (W.alloc (.cells (madeCells #[.int .i64 0, .int .i64 0, .string ⟨#[]⟩, .string ⟨#[]⟩, .string ⟨#[]⟩, .slice none 0 0, .string ⟨#[]⟩, .string ⟨#[]⟩, .bool false] (N * 9)) 38)) := by
  obtain ⟨i0, hi, hz0, hz1, hz2⟩ := info_parts info_nod
  have hr := run_make (P := Tryd.prog) W 23 38 i0 _ Tryd.underlying23 hi hz0 .i64 .i64 0 (N : Int) (Int.le_refl _) (by omega) (by rw [hz2]; omega) (by omega)
  simp only [Int.toNat_zero, Int.toNat_natCast, hz1] at hr
  exact hr
theorem own_nods (W : World) (N : Nat) (hN : N ≤ 1048576) : GOwn 38 9 nV (W.alloc (.cells (madeCells #[.int .i64 0, .int .i64 0, .string ⟨#[]⟩, .string ⟨#[]⟩, .string ⟨#[]⟩, .slice none 0 0, .string ⟨#[]⟩, .string ⟨#[]⟩, .bool false] (N * 9)) 38)) W.heap.size (.slice (some ⟨W.heap.size, 0, none⟩) 0 N) [] := by
  unfold GOwn
  exact World.ownsRow_made W _ N (Nat.le_refl _) (by unfold maxLen; omega) (by rw [size_madeCells])
/-- A list of nodes of the call's own, the lists of pieces too. -/
def OwnP (W : World) (B : Nat) (v : Value) (l : List Nod) : Prop := GOwn 38 9 nV W B v l ∧ ∀ y ∈ l, OwnS W B (.slice y.a y.l.length y.n) y.l
theorem OwnP.fr {W : World} {B : Nat} {v : Value} {l : List Nod} (h : OwnP W B v l) : ∃ a c, v = .slice a l.length c ∧ l.length ≤ c ∧ FRow W a l := by
  obtain ⟨a, c, e, hc, hr⟩ := h.1.row nV_len
  exact ⟨a, c, e, hc, RdG.fr ⟨hr, fun y hy => (ownS_row (h.2 y hy)).1⟩⟩
theorem OwnP.keep {w w' : World} {B : Nat} {v : Value} {L : List Nod} (h : OwnP w B v L) (hk : ∀ b, b < w.heap.size → w'.heap[b]? = w.heap[b]?) : OwnP w' B v L :=
  ⟨owns_same (show w.ownsRow B 38 9 _ _ _ from h.1) (fun b hb => hk b (World.ownsRow.lt (show w.ownsRow B 38 9 _ _ _ from h.1) b hb).2), fun y hy => owns_same (show w.ownsRow B 9 1 _ _ _ from h.2 y hy) (fun b hb => hk b (World.ownsRow.lt (show w.ownsRow B 9 1 _ _ _ from h.2 y hy) b hb).2)⟩
theorem ownP_push {w w' : World} {B : Nat} {v v' : Value} {L : List Nod} {y : Nod} (h : OwnP w B v L) (hy : OwnS w B (.slice y.a y.l.length y.n) y.l) (h1 : GOwn 38 9 nV w' B v' (L ++ [y])) (h2 : ∀ b, b < w.heap.size → v.ownBlock ≠ some b → w'.heap[b]? = w.heap[b]?) : OwnP w' B v' (L ++ [y]) := by
  have key : ∀ z : Nod, OwnS w B (.slice z.a z.l.length z.n) z.l → OwnS w' B (.slice z.a z.l.length z.n) z.l := fun z hz =>
    owns_same (show w.ownsRow B 9 1 _ _ _ from hz) (fun k hk => h2 k (World.ownsRow.lt (show w.ownsRow B 9 1 _ _ _ from hz) k hk).2 (fun hh => owns_apart (show w.ownsRow B 38 9 _ _ _ from h.1) (show w.ownsRow B 9 1 _ _ _ from hz) (by decide) hh hk))
  refine ⟨h1, fun z hz => ?_⟩
  rcases List.mem_append.1 hz with hz | hz
  · exact key z (h.2 z hz)
  · have : z = y := by simpa using hz
    subst this
    exact key _ hy
/-- What a node says, so much deeper. -/
def dp (by' : Int) (x : Nod) : Nod := { x with dep := wrap64 (x.dep + by') }

set_option maxRecDepth 100000 in
set_option maxHeartbeats 4000000 in
theorem moved_any (by' : Int) (xs : List Nod) (a : Option Addr) (c : Nat) (w : World) (hn : xs.length ≤ 1048576) (hl : ∀ x ∈ xs, x.l.length ≤ 1048576) (h : FRow w a xs) :
    Calls Tryd.prog 18 #[.slice a xs.length c, .int .i64 by'] w fun e w' => (∃ v ys, e = .returned v ∧ OwnP w' w.heap.size v ys ∧ ys.map np = xs.map (fun x => np (dp by' x))) ∧ Below w.heap.size w w' := by
  have h' : Hid (FRow w a xs) := h
  have hl' : Hid (∀ x ∈ xs, x.l.length ≤ 1048576) := hl
  clear h hl
  have hmk := mk_nods xs.length hn w
  have hbm : Below w.heap.size w (w.alloc (.cells (madeCells #[.int .i64 0, .int .i64 0, .string ⟨#[]⟩, .string ⟨#[]⟩, .string ⟨#[]⟩, .slice none 0 0, .string ⟨#[]⟩, .string ⟨#[]⟩, .bool false] (xs.length * 9)) 38)) := (Below.refl _ _).alloc (Nat.le_refl _) _
  have hom := own_nods w xs.length hn
  generalize (w.alloc (.cells (madeCells #[.int .i64 0, .int .i64 0, .string ⟨#[]⟩, .string ⟨#[]⟩, .string ⟨#[]⟩, .slice none 0 0, .string ⟨#[]⟩, .string ⟨#[]⟩, .bool false] (xs.length * 9)) 38)) = w0 at *
  have hI0 : Hid (OwnP w0 w.heap.size (.slice (some ⟨w.heap.size, 0, none⟩) 0 xs.length) [] ∧ ([] : List Nod).map np = (xs.take 0).map (fun x => np (dp by' x)) ∧ Below w.heap.size w w0) := ⟨⟨hom, fun y hy => by cases hy⟩, by simp, hbm⟩
  clear hom hbm
  go_enter Tryd.func18, Tryd.ntmps18
  go_wp2_with fail
  go_loopw [5, 13] (fun mv iv wr => ∃ (i : Nat) (ys : List Nod), i ≤ xs.length ∧ iv = .int .i64 (i : Int) ∧ Hid (OwnP wr w.heap.size mv ys ∧ ys.map np = (xs.take i).map (fun x => np (dp by' x)) ∧ Below w.heap.size w wr)) (fun _ iv _ => xs.length - (intOf iv).toNat)
  case atStart => exact ⟨0, [], Nat.zero_le _, rfl, hI0⟩
  case round =>
    obtain ⟨i, ys, hi, rfl, hI⟩ := hrel
    clear hI0 hmk
    have hyl : Hid (ys.length = i) := by
      have := congrArg List.length hI.out.2.1
      simp at this
      unfold Hid
      omega
    obtain ⟨ma, mc, hmv, _⟩ := hI.out.1.fr
    subst hmv
    by_cases hlt : i < xs.length
    · obtain ⟨b, off, rfl, c0, c1, c2, c3, c4, c5, c6, c7, c8⟩ := (h'.out.below hI.out.2.2).at i hlt
      have hrow := ((h'.out.below hI.out.2.2) i hlt).2
      have i0 : (0 : Int) ≤ (i : Int) := Int.natCast_nonneg _
      have i1 : (i : Int) < (xs.length : Int) := Int.ofNat_lt.2 hlt
      have htk : Hid (xs.take (i + 1) = xs.take i ++ [xs[i]]) := List.take_succ_eq_append_getElem hlt
      have hxl : xs[i].l.length ≤ 1048576 := hl'.out _ (List.getElem_mem hlt)
      obtain ⟨⟨xd, xo, xs', xv, xi, xa, xn, xl, xf, xr, xb⟩, hx⟩ : ∃ x, xs[i] = x := ⟨_, rfl⟩
      rw [hx] at c0 c1 c2 c3 c4 c5 c6 c7 c8 hrow htk hxl
      dsimp only at c0 c1 c2 c3 c4 c5 c6 c7 c8 hrow hxl
      have hlt' : Hid (i < xs.length) := hlt
      obtain ⟨wA, hwA⟩ : ∃ W, wr.alloc (.cells #[.int .i64 xd, .int .i64 xo, .string (S xs'), .string (S xv), .string (S xi), .slice xa xl.length xn, .string (S xf), .string (S xr), .bool xb] 38) = W := ⟨_, rfl⟩
      have bA : Box wA wr.heap.size 38 #[.int .i64 xd, .int .i64 xo, .string (S xs'), .string (S xv), .string (S xi), .slice xa xl.length xn, .string (S xf), .string (S xr), .bool xb] := by rw [← hwA]; exact Box.new _ _ _
      have hbA : Below wr.heap.size wr wA := by rw [← hwA]; exact (Below.refl _ _).alloc (Nat.le_refl _) _
      have hP : Hid (∀ d, Calls Tryd.prog 25 #[.agg #[.int .i64 xd, .int .i64 xo, .string (S xs'), .string (S xv), .string (S xi), .slice xa xl.length xn, .string (S xf), .string (S xr), .bool xb], .int .i64 d] wA fun e w' => (∃ y : Nod, e = .returned (.agg (nA y)) ∧ np y = np ⟨d, xo, xs', xv, xi, xa, xn, xl, xf, xr, xb⟩ ∧ OwnS w' wA.heap.size (.slice y.a y.l.length y.n) y.l) ∧ Below wA.heap.size wA w') := fun d => placed_any ⟨xd, xo, xs', xv, xi, xa, xn, xl, xf, xr, xb⟩ d wA hxl (hrow.below hbA)
      have e0 : wA.cell? ⟨wr.heap.size, 0, none⟩ = some (.int .i64 xd) := (bA.cell 0 (by simp)).1
      have KA : Hid (Below wr.heap.size wr wA) := hbA
      clear hbA hrow hxl hx hlt
      generalize S xs' = s1 at *
      generalize S xv = t1 at *
      generalize S xi = p1 at *
      generalize S xf = q1 at *
      generalize S xr = r1 at *
      go_upto_region 5 with fail
      clear c0 c1 c2 c3 c4 c5 c6 c7 c8 hwA
      have T1 : True := trivial
      go_wp2_with (first
        | (refine load_n rfl _ rfl wr.heap.size rfl bA rfl ?_)
        | (go_at_call 25; refine (hP.out _).mono ?_; rintro e w1 ⟨⟨y, rfl, hy, hM⟩, hb1⟩; obtain ⟨w4, hw4⟩ : ∃ W, w1.alloc (.cells (nA y) 38) = W := ⟨_, rfl⟩; have b4 : Box w4 w1.heap.size 38 (nV y).toArray := (by rw [← hw4]; exact Box.new _ _ _); have hb4 : Below w1.heap.size w1 w4 := (by rw [← hw4]; exact (Below.refl _ _).alloc (Nat.le_refl _) _); have hB1 : Below wr.heap.size wr w1 := KA.out.trans (hb1.mono KA.out.size); have hB4' : Below wr.heap.size wr w4 := hB1.trans (hb4.mono hB1.size); have hO4 : OwnP w4 w.heap.size (.slice ma ys.length mc) ys := hI.out.1.keep (fun b hb => hB4'.block b hb); have hM4 : OwnS w4 w.heap.size (.slice y.a y.l.length y.n) y.l := owns_base (show World.ownsRow _ _ 9 1 _ _ _ from ownS_below hM hb4) (by have := hI.out.2.2.size; have := KA.out.size; omega); have hB4 : Below w.heap.size w w4 := hI.out.2.2.trans (hB4'.mono hI.out.2.2.size); have hs4 : w.heap.size ≤ w4.heap.size := hB4.size; have hyn : (ys.length + 1) * 128 ≤ 140737488355328 := (by have := hyl.out; omega))
        | (clear T1; at_builtin; refine push_gen kd_nod _ rfl _ _ rfl w.heap.size _ ys y w1.heap.size rfl rfl hO4.1 b4 hs4 hyn (by decide) ?_; intro g' cap' w5 hO5 hk5 hb5))
      have hnp : Hid ((ys ++ [y]).map np = (xs.take (i + 1)).map (fun x => np (dp by' x))) := by
        unfold Hid
        rw [List.map_append, hI.out.2.1, htk.out, List.map_append]
        simp only [List.map_cons, List.map_nil, hy]
        rfl
      have hfin : Hid (OwnP w5 w.heap.size (.slice (some ⟨g', 0, none⟩) (ys.length + 1) cap') (ys ++ [y]) ∧ (ys ++ [y]).map np = (xs.take (i + 1)).map (fun x => np (dp by' x)) ∧ Below w.heap.size w w5) :=
        ⟨ownP_push hO4 hM4 hO5 hk5, hnp.out, hB4.trans hb5⟩
      go_roundw
      case rel => exact ⟨i + 1, ys ++ [y], hlt'.out, by simp, hfin⟩
      case measure => have := hlt'.out; simp [intOf]; omega
    · have hie : i = xs.length := by omega
      subst hie
      rw [List.take_length] at hI
      have k1 : ¬ (xs.length : Int) < (xs.length : Int) := by omega
      go_wp2_with fail
      go_ret
      exact ⟨⟨_, rfl, ys, hI.out.1, hI.out.2.1⟩, hI.out.2.2⟩
end Go.Proofs.YtofghgggllfafaaDoor
