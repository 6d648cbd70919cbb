import Derived.Test.YtembeinglnojkaaDoorMgRf4
namespace Go.Proofs.YtembeinglnojkaaDoor
open Go.RowKit
set_option linter.unusedVariables false

theorem outV_form (q : Scl) (c : Bool) : ∃ ri rk rc rt ok, outV q c = .tuple #[.agg #[.int .i64 ri, .int .i64 rk, .int .i64 rc, .string ⟨#[]⟩, .string rt, .string ⟨#[]⟩, .slice none 0 0, .string ⟨#[]⟩, .bool false, .slice none 0 0], .bool ok] := by
  have key : ∀ x, ∃ ri rk rc rt ok, outW q x = .tuple #[.agg #[.int .i64 ri, .int .i64 rk, .int .i64 rc, .string ⟨#[]⟩, .string rt, .string ⟨#[]⟩, .slice none 0 0, .string ⟨#[]⟩, .bool false, .slice none 0 0], .bool ok] := fun x => by
    cases x with
    | none => exact ⟨0, 0, 0, ⟨#[]⟩, false, rfl⟩
    | some y => exact ⟨q.id, rkd q.kind, y.1, y.2, true, rfl⟩
  unfold outV
  split
  · exact key _
  · exact key _
theorem load_rep_if {ops : Array Oper} {rest : List Oper} {o : Oper} {a : Act} {w : World} {Q : Exit → Act → World → Prop} (hw : Region.wanted o (yielded ops a.tmps) = true) (x : Operand) (ho : o.op = .load 42 x)
    (g : Nat) (hx : a.eval x = .pointer (some ⟨g, 0, none⟩)) {cs : Array Value} (hg : Box w g 42 cs) (hs : cs.size = 10)
    (h : wpList Tryd.prog ops Q rest (a.put o.dst (.agg cs)) w) : wpList Tryd.prog ops Q (o :: rest) a w := by
  refine wpList_step fun K hK => ?_
  rw [if_pos hw]
  exact wp_load_row 42 x ho g hx 42 cs (0, 0) _ hg Tryd.underlying42 rfl (by rw [hs]; exact info_rep) (hK _ _ h)
theorem load_req_if {ops : Array Oper} {rest : List Oper} {o : Oper} {a : Act} {w : World} {Q : Exit → Act → World → Prop} (hw : Region.wanted o (yielded ops a.tmps) = true) (x : Operand) (ho : o.op = .load 36 x)
    (g : Nat) (hx : a.eval x = .pointer (some ⟨g, 0, none⟩)) {cs : Array Value} (hg : Box w g 36 cs) (hs : cs.size = 29)
    (h : wpList Tryd.prog ops Q rest (a.put o.dst (.agg cs)) w) : wpList Tryd.prog ops Q (o :: rest) a w := by
  refine wpList_step fun K hK => ?_
  rw [if_pos hw]
  exact wp_load_row 36 x ho g hx 36 cs (0, 0) _ hg Tryd.underlying36 rfl (by rw [hs]; exact info_req) (hK _ _ h)

set_option maxRecDepth 100000 in
set_option maxHeartbeats 4000000 in
theorem msgRefusals_walk (q : Scl) (L : Lst) (tx : ByteArray) (w : World) (hm : LSm L) (h : LRd w L) (hT : KTab w) :
    Calls Tryd.prog 3 #[.agg (rq q L), .string tx] w fun e w' => e = .returned (.bool true) ∧ Below w.heap.size w w' := by
  obtain ⟨ri, rk, rc, rt, ok, hO⟩ := outV_form q (L.ks.any Ctl.crit)
  obtain ⟨wA, hwA⟩ : ∃ W, w.alloc (.cells (rq q L) 36) = W := ⟨_, rfl⟩
  have B0 : Below w.heap.size w wA := by rw [← hwA]; exact (Below.refl _ _).alloc (Nat.le_refl _) _
  have p0 : Box wA w.heap.size 36 (rq q L) := by rw [← hwA]; exact Box.new _ _ _
  have hR1 : Hid (Calls Tryd.prog 4 #[.agg (rq q L)] wA fun e w' => e = .returned (.tuple #[.agg #[.int .i64 ri, .int .i64 rk, .int .i64 rc, .string ⟨#[]⟩, .string rt, .string ⟨#[]⟩, .slice none 0 0, .string ⟨#[]⟩, .bool false, .slice none 0 0], .bool ok]) ∧ Below wA.heap.size wA w') := by
    have := rRefusal_any q L wA hm.2.2.2.2 (h.below B0).2.2.2.2 (hT.below B0)
    rw [hO] at this
    exact this
  have hR2 : Hid (∀ W, Below w.heap.size w W → Calls Tryd.prog 5 #[.agg (rq q L)] W fun e w' => (∃ M, e = .returned (.agg (rq q M)) ∧ LMk w' M ∧ LSa M L) ∧ Below W.heap.size W w') := fun W hW => request_any q L W hm (h.below hW)
  have hR3 : Hid (∀ M W, LMk W M → LSa M L → Calls Tryd.prog 6 #[.agg (rq q M)] W fun e w' => e = .returned (.tuple #[.agg #[.int .i64 ri, .int .i64 rk, .int .i64 rc, .string ⟨#[]⟩, .string rt, .string ⟨#[]⟩, .slice none 0 0, .string ⟨#[]⟩, .bool false, .slice none 0 0], .bool ok]) ∧ Below W.heap.size W w') := fun M W hM hS => by
    have e5 : M.ks = L.ks := hS.2.2.2.2
    have := mRefusal_any q M W (by rw [e5]; exact hm.2.2.2.2) hM.rd.2.2.2.2
    rw [e5, hO] at this
    exact this
  have hR4 : Hid (∀ M W, LMk W M → LSa M L → Below w.heap.size w W → Calls Tryd.prog 8 #[.agg (rq q M), .agg (rq q L)] W fun e w' => e = .returned (.bool true) ∧ Below W.heap.size W w') := fun M W hM hS hW => by
    have hmM : LSm M := by
      obtain ⟨s1, s2, s3, s4, s5⟩ := hS
      obtain ⟨⟨a1, a2⟩, a3, ⟨a4, a5⟩, ⟨a6, a7⟩, a8⟩ := hm
      have l1 : M.fs.length = L.fs.length := by simpa using congrArg List.length s1
      have l3 : M.cs.length = L.cs.length := by simpa using congrArg List.length s3
      have l4 : M.ts.length = L.ts.length := by simpa using congrArg List.length s4
      refine ⟨⟨by omega, fun x hx => ?_⟩, by rw [s2]; exact a3, ⟨by omega, fun x hx => ?_⟩, ⟨by omega, fun x hx => ?_⟩, by rw [s5]; exact a8⟩
      · have : np x ∈ L.fs.map np := by rw [← s1]; exact List.mem_map.2 ⟨x, hx, rfl⟩
        obtain ⟨y, hy, e⟩ := List.mem_map.1 this
        have e2 : y.l = x.l := by simp only [np, Prod.mk.injEq] at e; exact e.2.2.2.2.2.1
        rw [← e2]
        exact a2 y hy
      · have : cP x ∈ L.cs.map cP := by rw [← s3]; exact List.mem_map.2 ⟨x, hx, rfl⟩
        obtain ⟨y, hy, e⟩ := List.mem_map.1 this
        have e2 : y.l = x.l := by simp only [cP, Prod.mk.injEq] at e; exact e.2.2
        rw [← e2]
        exact a5 y hy
      · have : tP x ∈ L.ts.map tP := by rw [← s4]; exact List.mem_map.2 ⟨x, hx, rfl⟩
        obtain ⟨y, hy, e⟩ := List.mem_map.1 this
        have e2 : y.l = x.l := by simp only [tP, Prod.mk.injEq] at e; exact e.2.2
        rw [← e2]
        exact a7 y hy
    exact kept_any q M L W hmM hM (h.below hW) hS
  have B0' : Hid (Below w.heap.size w wA) := B0
  have h1c : (#[.int .i64 ri, .int .i64 rk, .int .i64 rc, .string ⟨#[]⟩, .string rt, .string ⟨#[]⟩, .slice none 0 0, .string ⟨#[]⟩, .bool false, .slice none 0 0] : Array Value).all (·.oneCell') = true := by simp [Value.oneCell']
  have h2c : ∀ M, (rq q M).all (·.oneCell') = true := fun M => by simp [rq, Value.oneCell']
  clear hm h hT hO
  generalize hQL : rq q L = QL at *
  have hsz : QL.size = 29 := by rw [← hQL]; rfl
  clear hQL
  go_enter Tryd.func3, Tryd.ntmps3
  go_upto_region 1 with fail
  clear hwA
  go_upto_region 2 with (first | (refine load_req rfl _ rfl w.heap.size rfl p0 hsz ?_) | (go_at_call 4; refine hR1.out.mono ?_; rintro e w1 ⟨rfl, hb1⟩) | (refine store_t info_rep rfl _ _ rfl w1.heap.size #[.int .i64 ri, .int .i64 rk, .int .i64 rc, .string ⟨#[]⟩, .string rt, .string ⟨#[]⟩, .slice none 0 0, .string ⟨#[]⟩, .bool false, .slice none 0 0] rfl rfl (Box.new w1 _ _) rfl rfl h1c ?_))
  obtain ⟨W1, hW1⟩ : ∃ W, (w1.alloc (.cells #[.int .i64 0, .int .i64 0, .int .i64 0, .string ⟨#[]⟩, .string ⟨#[]⟩, .string ⟨#[]⟩, .slice none 0 0, .string ⟨#[]⟩, .bool false, .slice none 0 0] 42)).setRow w1.heap.size #[.int .i64 ri, .int .i64 rk, .int .i64 rc, .string ⟨#[]⟩, .string rt, .string ⟨#[]⟩, .slice none 0 0, .string ⟨#[]⟩, .bool false, .slice none 0 0] = W := ⟨_, rfl⟩
  rw [hW1]
  have r1 : Box W1 w1.heap.size 42 #[.int .i64 ri, .int .i64 rk, .int .i64 rc, .string ⟨#[]⟩, .string rt, .string ⟨#[]⟩, .slice none 0 0, .string ⟨#[]⟩, .bool false, .slice none 0 0] := by rw [← hW1]; exact box_row (Box.new _ _ _)
  have b1 : Below w1.heap.size w1 W1 := by rw [← hW1]; exact below_row ((Below.refl _ _).alloc (Nat.le_refl _) _) (Nat.le_refl _) _
  have B1 : Below wA.heap.size wA W1 := hb1.trans (b1.mono hb1.size)
  have p1 := p0.below B1
  have B1' : Below w.heap.size w W1 := B0'.out.trans (B1.mono B0'.out.size)
  have hQ2 : Hid (Calls Tryd.prog 5 #[.agg QL] W1 fun e w' => (∃ M, e = .returned (.agg (rq q M)) ∧ LMk w' M ∧ LSa M L) ∧ Below W1.heap.size W1 w') := hR2.out W1 B1'
  have hx1 : Hid (Below w.heap.size w W1) := B1'
  clear hW1 b1 hb1 p0 B1 B1' hR1 hR2 B0'
  go_upto_region 3 with (first | (refine load_req rfl _ rfl w.heap.size rfl p1 hsz ?_) | (go_at_call 5; refine hQ2.out.mono ?_; rintro e w2 ⟨⟨M, rfl, hM, hS⟩, hb2⟩) | (refine store_req rfl _ _ rfl w2.heap.size (rq q M) rfl rfl (Box.new w2 _ _) rfl rfl (h2c M) ?_))
  obtain ⟨W2, hW2⟩ : ∃ W, (w2.alloc (.cells #[.int .i64 0, .int .i64 0, .int .i64 0, .string ⟨#[]⟩, .int .i64 0, .string ⟨#[]⟩, .string ⟨#[]⟩, .string ⟨#[]⟩, .bool false, .string ⟨#[]⟩, .int .i64 0, .int .i64 0, .int .i64 0, .int .i64 0, .bool false, .slice none 0 0, .slice none 0 0, .string ⟨#[]⟩, .slice none 0 0, .slice none 0 0, .string ⟨#[]⟩, .bool false, .string ⟨#[]⟩, .bool false, .string ⟨#[]⟩, .string ⟨#[]⟩, .bool false, .int .i64 0, .slice none 0 0] 36)).setRow w2.heap.size (rq q M) = W := ⟨_, rfl⟩
  rw [hW2]
  have r2 : Box W2 w2.heap.size 36 (rq q M) := by rw [← hW2]; exact box_row (Box.new _ _ _)
  have b2 : Below w2.heap.size w2 W2 := by rw [← hW2]; exact below_row ((Below.refl _ _).alloc (Nat.le_refl _) _) (Nat.le_refl _) _
  have B2 : Below W1.heap.size W1 W2 := hb2.trans (b2.mono hb2.size)
  have M2 := hM.below b2
  have p2 := p1.below B2
  have s1 := r1.below B2
  have hx2 : Hid (Below w.heap.size w W2) := hx1.out.trans (B2.mono hx1.out.size)
  have hQ3 : Hid (Calls Tryd.prog 6 #[.agg (rq q M)] W2 fun e w' => e = .returned (.tuple #[.agg #[.int .i64 ri, .int .i64 rk, .int .i64 rc, .string ⟨#[]⟩, .string rt, .string ⟨#[]⟩, .slice none 0 0, .string ⟨#[]⟩, .bool false, .slice none 0 0], .bool ok]) ∧ Below W2.heap.size W2 w') := hR3.out M W2 M2 hS
  have hQ4 : Hid (∀ W, Below W2.heap.size W2 W → Calls Tryd.prog 8 #[.agg (rq q M), .agg QL] W fun e w' => e = .returned (.bool true) ∧ Below W.heap.size W w') := fun W hW => hR4.out M W (M2.below hW) hS (hx2.out.trans (hW.mono hx2.out.size))
  clear hW2 b2 hb2 p1 r1 B2 hx1 hQ2 hM M2 hS hR3 hR4 h2c
  generalize hQM : rq q M = QM at *
  have hsM : QM.size = 29 := by rw [← hQM]; rfl
  clear hQM
  go_upto_region 4 with (first | (refine load_req rfl _ rfl w2.heap.size rfl r2 hsM ?_) | (go_at_call 6; refine hQ3.out.mono ?_; rintro e w3 ⟨rfl, hb3⟩) | (refine store_t info_rep rfl _ _ rfl w3.heap.size #[.int .i64 ri, .int .i64 rk, .int .i64 rc, .string ⟨#[]⟩, .string rt, .string ⟨#[]⟩, .slice none 0 0, .string ⟨#[]⟩, .bool false, .slice none 0 0] rfl rfl (Box.new w3 _ _) rfl rfl h1c ?_))
  obtain ⟨W3, hW3⟩ : ∃ W, (w3.alloc (.cells #[.int .i64 0, .int .i64 0, .int .i64 0, .string ⟨#[]⟩, .string ⟨#[]⟩, .string ⟨#[]⟩, .slice none 0 0, .string ⟨#[]⟩, .bool false, .slice none 0 0] 42)).setRow w3.heap.size #[.int .i64 ri, .int .i64 rk, .int .i64 rc, .string ⟨#[]⟩, .string rt, .string ⟨#[]⟩, .slice none 0 0, .string ⟨#[]⟩, .bool false, .slice none 0 0] = W := ⟨_, rfl⟩
  rw [hW3]
  have r3 : Box W3 w3.heap.size 42 #[.int .i64 ri, .int .i64 rk, .int .i64 rc, .string ⟨#[]⟩, .string rt, .string ⟨#[]⟩, .slice none 0 0, .string ⟨#[]⟩, .bool false, .slice none 0 0] := by rw [← hW3]; exact box_row (Box.new _ _ _)
  have b3 : Below w3.heap.size w3 W3 := by rw [← hW3]; exact below_row ((Below.refl _ _).alloc (Nat.le_refl _) _) (Nat.le_refl _) _
  have B3 : Below W2.heap.size W2 W3 := hb3.trans (b3.mono hb3.size)
  have t1 := s1.below B3
  have t2 := r2.below B3
  have p3 := p2.below B3
  have hx3 : Hid (Below w.heap.size w W3) := hx2.out.trans (B3.mono hx2.out.size)
  have hQ5 : Hid (∀ W, Below W3.heap.size W3 W → Calls Tryd.prog 8 #[.agg QM, .agg QL] W fun e w' => e = .returned (.bool true) ∧ Below W.heap.size W w') := fun W hW => hQ4.out W (B3.trans (hW.mono B3.size))
  have oe : (ok == ok) = true := by simp
  clear hW3 b3 hb3 p2 r2 s1 B3 hx2 hQ3 hQ4 h1c
  have T1 : True := trivial
  go_wp2_with (first
    | (refine load_rep_if rfl _ rfl w3.heap.size rfl r3 rfl ?_)
    | (refine load_rep_if rfl _ rfl w1.heap.size rfl t1 rfl ?_)
    | (clear T1; go_at_call 7; refine (sameReply_any ri rk rc ⟨#[]⟩ rt ⟨#[]⟩ ⟨#[]⟩ false W3).mono ?_; rintro e w4 ⟨rfl, hb4⟩; have u2 := t2.below hb4; have u3 := p3.below hb4; have T2 : True := trivial)
    | (refine load_req_if rfl _ rfl w2.heap.size rfl u2 hsM ?_)
    | (refine load_req_if rfl _ rfl w.heap.size rfl u3 hsz ?_)
    | (go_at_call 8; refine (hQ5.out w4 hb4).mono ?_; rintro e w5 ⟨rfl, hb5⟩)
    | (go_at_call 9; refine (mNotice_any tx w5).mono ?_; rintro e w6 ⟨rfl, hb6⟩)
    | (go_at_call 10; refine (rNotice_any tx w6).mono ?_; rintro e w7 ⟨rfl, hb7⟩)
    | (clear T2; go_at_call 7; refine (sameReply_any 0 8 2 ⟨#[]⟩ tx ⟨#[]⟩ ⟨#[49, 46, 51, 46, 54, 46, 49, 46, 52, 46, 49, 46, 49, 52, 54, 54, 46, 50, 48, 48, 51, 54]⟩ true w7).mono ?_; rintro e w8 ⟨rfl, hb8⟩))
  go_ret
  refine ⟨rfl, ?_⟩
  have h3 := hx3.out
  have h4 := h3.trans (hb4.mono h3.size)
  have h5 := h4.trans (hb5.mono h4.size)
  have h6 := h5.trans (hb6.mono h5.size)
  have h7 := h6.trans (hb7.mono h6.size)
  exact h7.trans (hb8.mono h7.size)
end Go.Proofs.YtembeinglnojkaaDoor
