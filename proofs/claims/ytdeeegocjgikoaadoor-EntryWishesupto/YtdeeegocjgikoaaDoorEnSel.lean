import Derived.Test.YtdeeegocjgikoaaDoorEnSpr
import Derived.Test.YtdeeegocjgikoaaDoorAtShelf
namespace Go.Proofs.YtdeeegocjgikoaaDoor
open Go.RowKit
set_option linter.unusedVariables false

theorem clone_any (l : List (List UInt8)) (a : Option Addr) (c : Nat) (w : World) (hl : l.length ≤ 1048576) (h : Row w a l) :
    Calls Tryd.prog 24 #[.slice a l.length c] w fun e w' => ∃ v, e = .returned v ∧ OwnS w' w.heap.size v l ∧ Below w.heap.size w w' := by
  cases a with
  | none =>
    have h0 : l = [] := by
      rcases Nat.eq_zero_or_pos l.length with h1 | h1
      · exact List.eq_nil_of_length_eq_zero h1
      · obtain ⟨b, off, e, _⟩ := h 0 h1
        cases e
    subst h0
    refine (Tryd.slices_Clone_string_nil 0 c w).mono ?_
    rintro e w' ⟨rfl, rfl⟩
    exact ⟨_, rfl, ownS_nil _ _, Below.refl _ _⟩
  | some x =>
    rcases Nat.eq_zero_or_pos l.length with h1 | h1
    · have h0 := List.eq_nil_of_length_eq_zero h1
      subst h0
      refine (Tryd.slices_Clone_string_zero x c w).mono ?_
      rintro e w' ⟨v, rfl, ho, _, hb⟩
      exact ⟨v, rfl, ho, hb⟩
    · obtain ⟨b, off, e, _⟩ := h 0 h1
      injection e with e
      subst e
      refine (Tryd.slices_Clone_string b off l.length c (l.map S) w (by simp) (by omega) (fun j hj => ?_)).mono ?_
      · have hj' : j < l.length := by simpa using hj
        obtain ⟨b', off', e, hc⟩ := h j hj'
        injection e with e
        injection e with e1 e2
        subst e1 e2
        rw [hc]
        simp [List.getD, hj']
      · rintro e w' ⟨v, rfl, ho, _, hb⟩
        refine ⟨v, rfl, ?_, hb⟩
        have hm : (List.take l.length (l.map S)).map Value.string = sv l := by
          rw [List.take_of_length_le (by simp), List.map_map]
          rfl
        rw [hm] at ho
        exact ho

/-- A question that is asked of canonical forms, as a closure answers it. -/
def AskH (f : FuncId) (caps : List Value) (q : List UInt8 → Bool) (w : World) : Prop := ∀ W, Below w.heap.size w W → ∀ c : List UInt8, c.length ≤ 1048576 → Calls Tryd.prog f (.string (S c) :: caps).toArray W fun r w' => r = .returned (.bool (q c)) ∧ Below W.heap.size W w'
theorem AskH.below {f : FuncId} {caps : List Value} {q : List UInt8 → Bool} {w w' : World} (h : AskH f caps q w) (hb : Below w.heap.size w w') : AskH f caps q w' := fun W hW c hc => h W (hb.trans (hW.mono hb.size)) c hc
/-- What a selection says. -/
def selL (q : List UInt8 → Bool) (ty : Bool) (xs : List Atr) : List (List UInt8 × List UInt8 × List (List UInt8)) := (xs.filter fun x => q x.c).map fun x => (x.d, [], if ty then [] else x.l)
theorem selL_snoc (q : List UInt8 → Bool) (ty : Bool) (xs : List Atr) (x : Atr) : selL q ty (xs ++ [x]) = selL q ty xs ++ (if q x.c then [(x.d, [], if ty then [] else x.l)] else []) := by
  unfold selL
  rw [List.filter_append, List.map_append]
  congr 1
  by_cases h : q x.c <;> simp [h]
theorem selL_pl (q : List UInt8 → Bool) (ty : Bool) {xs ys : List Atr} (h : ys.map pl = xs.map pl) : selL q ty ys = selL q ty xs := by
  have e : ∀ zs : List Atr, selL q ty zs = ((zs.map pl).filter fun t => q t.2.1).map fun t => (t.1, [], if ty then [] else t.2.2) := fun zs => by
    unfold selL
    rw [List.filter_map, List.map_map]
    rfl
  rw [e, e, h]
theorem selL_le (q : List UInt8 → Bool) (ty : Bool) (xs : List Atr) : (selL q ty xs).length ≤ xs.length := by
  unfold selL
  rw [List.length_map]
  exact List.length_filter_le _ _
/-- Attributes that were made: a list of the call's own, each one's values too. -/
def MadeA (W : World) (B : Nat) (v : Value) (zs : List Atr) : Prop := OwnA W B v zs ∧ ∀ z ∈ zs, OwnS W B (.slice z.a z.l.length z.n) z.l
theorem MadeA.same {W W' : World} {B : Nat} {v : Value} {zs : List Atr} (h : MadeA W B v zs) (hk : ∀ b, b < W.heap.size → W'.heap[b]? = W.heap[b]?) : MadeA W' B v zs :=
  ⟨owns_same (show World.ownsRow _ _ 32 3 _ _ _ from h.1) (fun k hh => hk k (World.ownsRow.lt (show World.ownsRow _ _ 32 3 _ _ _ from h.1) k hh).2), fun z hz => owns_same (show World.ownsRow _ _ 9 1 _ _ _ from h.2 z hz) (fun k hh => hk k (World.ownsRow.lt (show World.ownsRow _ _ 9 1 _ _ _ from h.2 z hz) k hh).2)⟩
theorem MadeA.below {W W' : World} {B : Nat} {v : Value} {zs : List Atr} (h : MadeA W B v zs) (hb : Below W.heap.size W W') : MadeA W' B v zs := h.same (fun b hh => hb.block b hh)
theorem MadeA.base {W : World} {B B' : Nat} {v : Value} {zs : List Atr} (h : MadeA W B v zs) (hb : B' ≤ B) : MadeA W B' v zs := ⟨owns_base (show World.ownsRow _ _ 32 3 _ _ _ from h.1) hb, fun z hz => owns_base (show World.ownsRow _ _ 9 1 _ _ _ from h.2 z hz) hb⟩
theorem MadeA.nil (W : World) (B : Nat) : MadeA W B (.slice none 0 0) [] := ⟨ownA_nil _ _, fun z hz => by cases hz⟩
theorem MadeA.row {W : World} {B : Nat} {v : Value} {zs : List Atr} (h : MadeA W B v zs) : ∃ a c, v = .slice a zs.length c ∧ ARow W a zs ∧ zs.length ≤ c := by
  rcases owns_form (show World.ownsRow _ _ 32 3 _ _ _ from h.1) with ⟨rfl, h0⟩ | ⟨g, cap, rfl, hc, _⟩
  · exact ⟨none, 0, by rw [h0], fun i hi => by omega, by omega⟩
  · refine ⟨_, cap, rfl, fun i hi => ?_, hc⟩
    obtain ⟨h1, h2, h3⟩ := ownA_cells h.1 i hi
    exact ⟨⟨g, 0, rfl, by simpa using h1, by simpa using h2, by simpa using h3⟩, (ownS_row (h.2 _ (List.getElem_mem hi))).1⟩
/-- One more. -/
theorem MadeA.push {W W' : World} {B : Nat} {v v' : Value} {zs : List Atr} {z : Atr} (h : MadeA W B v zs) (hz : OwnS W B (.slice z.a z.l.length z.n) z.l) (ho : OwnA W' B v' (zs ++ [z])) (hk : ∀ b, b < W.heap.size → v.ownBlock ≠ some b → W'.heap[b]? = W.heap[b]?) : MadeA W' B v' (zs ++ [z]) := by
  refine ⟨ho, fun y hy => ?_⟩
  have hy' : OwnS W B (.slice y.a y.l.length y.n) y.l := by
    rcases List.mem_append.1 hy with hy | hy
    · exact h.2 y hy
    · have : y = z := by simpa using hy
      subst this
      exact hz
  refine owns_same (show World.ownsRow _ _ 9 1 _ _ _ from hy') (fun k hh => hk k (World.ownsRow.lt (show World.ownsRow _ _ 9 1 _ _ _ from hy') k hh).2 (fun hv => ?_))
  exact owns_apart (show World.ownsRow _ _ 32 3 _ _ _ from h.1) (show World.ownsRow _ _ 9 1 _ _ _ from hy') (by decide) hv hh

set_option maxRecDepth 100000 in
set_option maxHeartbeats 4000000 in
theorem select_any (ty : Bool) (q : List UInt8 → Bool) (wl : Nat) (wa : Option Addr) (wc : Nat) (ln : Int) (nm : ByteArray) (ka : Option Addr) (kn kc : Nat) (xs : List Atr) (a : Option Addr) (c : Nat) (w : World) (hn : xs.length ≤ 1048576) (hx : ∀ x ∈ xs, x.c.length ≤ 1048576) (hxl : ∀ x ∈ xs, x.l.length ≤ 1048576) (h : ARow w a xs)
    (hW : ∀ W, Below w.heap.size w W → Calls Tryd.prog 23 #[.slice wa wl wc] W fun e w' => (∃ g1 g2 g3, e = .returned (.func (.func 34) #[] #[.pointer (some ⟨g1, 0, none⟩), .pointer (some ⟨g2, 0, none⟩), .pointer (some ⟨g3, 0, none⟩)]) ∧ AskH 34 [.pointer (some ⟨g1, 0, none⟩), .pointer (some ⟨g2, 0, none⟩), .pointer (some ⟨g3, 0, none⟩)] q w') ∧ Below W.heap.size W w') :
    Calls Tryd.prog 7 #[.agg #[.int .i64 ln, .string nm, .slice ka kn kc, .slice a xs.length c], .slice wa wl wc, .bool ty] w fun e w' => (∃ v zs, e = .returned v ∧ MadeA w' w.heap.size v zs ∧ zs.map pl = selL q ty xs) ∧ Below w.heap.size w w' := by
  have h' : Hid (ARow w a xs ∧ (∀ x ∈ xs, x.c.length ≤ 1048576) ∧ (∀ x ∈ xs, x.l.length ≤ 1048576)) := ⟨h, hx, hxl⟩
  obtain ⟨Wa, hWa⟩ : ∃ W, w.alloc (.cells #[.int .i64 ln, .string nm, .slice ka kn kc, .slice a xs.length c] 25) = W := ⟨_, rfl⟩
  have pa : Box Wa w.heap.size 25 #[.int .i64 ln, .string nm, .slice ka kn kc, .slice a xs.length c] := by rw [← hWa]; exact Box.new _ _ _
  have hB : Below w.heap.size w Wa := by rw [← hWa]; exact (Below.refl _ _).alloc (Nat.le_refl _) _
  have hWi : Hid (Calls Tryd.prog 23 #[.slice wa wl wc] Wa fun e w' => (∃ g1 g2 g3, e = .returned (.func (.func 34) #[] #[.pointer (some ⟨g1, 0, none⟩), .pointer (some ⟨g2, 0, none⟩), .pointer (some ⟨g3, 0, none⟩)]) ∧ AskH 34 [.pointer (some ⟨g1, 0, none⟩), .pointer (some ⟨g2, 0, none⟩), .pointer (some ⟨g3, 0, none⟩)] q w') ∧ Below Wa.heap.size Wa w') := hW Wa hB
  have hPa : Hid (Box Wa w.heap.size 25 #[.int .i64 ln, .string nm, .slice ka kn kc, .slice a xs.length c] ∧ Below w.heap.size w Wa) := ⟨pa, hB⟩
  clear h hx hxl hW pa hB
  go_enter Tryd.func7, Tryd.ntmps7
  go_upto_region 3 with (go_at_call 23; refine hWi.out.mono ?_; rintro e w1 ⟨⟨g1, g2, g3, rfl, hA⟩, hb1⟩)
  have hB1 : Below w.heap.size w w1 := hPa.out.2.trans (hb1.mono hPa.out.2.size)
  have p1 := hPa.out.1.below hb1
  have c3 : w1.cell? ⟨w.heap.size, 3, none⟩ = some (.slice a xs.length c) := (p1.cell 3 (by simp)).1
  have hA' : Hid (AskH 34 [.pointer (some ⟨g1, 0, none⟩), .pointer (some ⟨g2, 0, none⟩), .pointer (some ⟨g3, 0, none⟩)] q w1) := hA
  have hB1' : Hid (Below w.heap.size w w1) := hB1
  clear hWa hWi hA hb1 hB1 p1 hPa
  go_wp2_with fail
  clear c3
  go_loopw [8, 17] (fun v iv wr => ∃ (i : Nat) (zs : List Atr), i ≤ xs.length ∧ iv = .int .i64 (i : Int) ∧ Hid (MadeA wr w1.heap.size v zs ∧ zs.map pl = selL q ty (xs.take i) ∧ Below w1.heap.size w1 wr)) (fun _ iv _ => xs.length - (intOf iv).toNat)
  case atStart => exact ⟨0, [], Nat.zero_le _, rfl, MadeA.nil _ _, rfl, Below.refl _ _⟩
  case round =>
    obtain ⟨i, zs, hi, rfl, hI⟩ := hrel
    have hzl : Hid (zs.length ≤ i) := by
      have := congrArg List.length hI.out.2.1
      rw [List.length_map] at this
      have h2 := selL_le q ty (xs.take i)
      rw [List.length_take] at h2
      unfold Hid
      omega
    obtain ⟨va, vc, hv, _⟩ := owns_slice (show World.ownsRow _ _ 32 3 _ _ _ from hI.out.1.1)
    subst hv
    have hBr : Below w.heap.size w wr := hB1'.out.trans (hI.out.2.2.mono hB1'.out.size)
    by_cases hlt : i < xs.length
    · obtain ⟨⟨b, off, rfl, d0, d1, d2⟩, hrow⟩ := (h'.out.1.below hBr) i hlt
      have i0 : (0 : Int) ≤ (i : Int) := Int.natCast_nonneg _
      have i1 : (i : Int) < (xs.length : Int) := Int.ofNat_lt.2 hlt
      have htk : Hid (selL q ty (xs.take (i + 1)) = selL q ty (xs.take i) ++ (if q xs[i].c then [(xs[i].d, [], if ty then [] else xs[i].l)] else [])) := by
        unfold Hid
        rw [List.take_succ_eq_append_getElem hlt, selL_snoc]
      have hxc := h'.out.2.1 _ (List.getElem_mem hlt)
      have hxl := h'.out.2.2 _ (List.getElem_mem hlt)
      obtain ⟨⟨xd, xc, xa, xn, xl⟩, hx⟩ : ∃ x, xs[i] = x := ⟨_, rfl⟩
      rw [hx] at d0 d1 d2 htk hrow hxc hxl
      dsimp only at d0 d1 d2 htk hrow hxc hxl
      have hlt' : Hid (i < xs.length) := hlt
      obtain ⟨wA, hwA⟩ : ∃ W, wr.alloc (.cells #[.string (S xd), .string (S xc), .slice xa xl.length xn] 32) = W := ⟨_, rfl⟩
      have bA : Box wA wr.heap.size 32 #[.string (S xd), .string (S xc), .slice xa xl.length xn] := by rw [← hwA]; exact Box.new _ _ _
      have hbA : Below wr.heap.size wr wA := by rw [← hwA]; exact (Below.refl _ _).alloc (Nat.le_refl _) _
      have hb1A : Below w1.heap.size w1 wA := hI.out.2.2.trans (hbA.mono hI.out.2.2.size)
      have hK : Hid (Calls Tryd.prog 34 #[.string (S xc), .pointer (some ⟨g1, 0, none⟩), .pointer (some ⟨g2, 0, none⟩), .pointer (some ⟨g3, 0, none⟩)] wA fun r w' => r = .returned (.bool (q xc)) ∧ Below wA.heap.size wA w') := hA'.out wA hb1A xc hxc
      have e1 : wA.cell? ⟨wr.heap.size, 1, none⟩ = some (.string (S xc)) := (bA.cell 1 (by simp)).1
      have H1 : Hid (MadeA wA w1.heap.size (.slice va zs.length vc) zs ∧ zs.map pl = selL q ty (xs.take i) ∧ Below w1.heap.size w1 wA ∧ Box wA wr.heap.size 32 #[.string (S xd), .string (S xc), .slice xa xl.length xn] ∧ Row wA xa xl ∧ w1.heap.size ≤ wA.heap.size ∧ xl.length ≤ 1048576) := ⟨hI.out.1.below hbA, hI.out.2.1, hb1A, bA, hrow.below hbA, hb1A.size, hxl⟩
      clear hrow hx hlt bA hI hbA hb1A hBr hxl
      go_upto_region 6 with fail
      clear d0 d1 d2 hwA
      generalize wr.heap.size = p at *
      cases hq : q xc with
      | false =>
        rw [hq] at hK htk
        go_wp2_with (go_at_call 34; refine hK.out.mono ?_; rintro e w2 ⟨rfl, hb2⟩)
        go_roundw
        case rel =>
          refine ⟨i + 1, zs, hlt'.out, by simp, H1.out.1.below hb2, ?_, H1.out.2.2.1.trans (hb2.mono H1.out.2.2.1.size)⟩
          rw [htk.out, H1.out.2.1]
          simp
        case measure => have := hlt'.out; simp [intOf]; omega
      | true =>
        rw [hq] at hK htk
        go_upto_region 7 with (go_at_call 34; refine hK.out.mono ?_; rintro e w2 ⟨rfl, hb2⟩)
        clear e1 hK
        obtain ⟨m1, m2, m3, m4, m5, m6, m7⟩ := H1.out
        have e0 : w2.cell? ⟨p, 0, none⟩ = some (.string (S xd)) := ((m4.below hb2).cell 0 (by simp)).1
        have e2 : w2.cell? ⟨p, 2, none⟩ = some (.slice xa xl.length xn) := ((m4.below hb2).cell 2 (by simp)).1
        have H2 : Hid (MadeA w2 w1.heap.size (.slice va zs.length vc) zs ∧ Below w1.heap.size w1 w2 ∧ Box w2 p 32 #[.string (S xd), .string (S xc), .slice xa xl.length xn] ∧ Row w2 xa xl ∧ w1.heap.size ≤ w2.heap.size ∧ xl.length ≤ 1048576 ∧ zs.map pl = selL q ty (xs.take i)) := ⟨m1.below hb2, m3.trans (hb2.mono m3.size), m4.below hb2, m5.below hb2, Nat.le_trans m6 hb2.size, m7, m2⟩
        clear m1 m2 m3 m4 m5 m6 m7 H1 hb2
        go_upto_region 8 with fail
        obtain ⟨w3, hw3⟩ : ∃ W, w2.alloc (.cells #[.string (S xd), .string ⟨#[]⟩, .slice none 0 0] 32) = W := ⟨_, rfl⟩
        rw [hw3]
        have b3 : Box w3 w2.heap.size 32 #[.string (S xd), .string ⟨#[]⟩, .slice none 0 0] := by rw [← hw3]; exact Box.new _ _ _
        have hb3 : Below w2.heap.size w2 w3 := by rw [← hw3]; exact (Below.refl _ _).alloc (Nat.le_refl _) _
        have e2' : w3.cell? ⟨p, 2, none⟩ = some (.slice xa xl.length xn) := ((H2.out.2.2.1.below hb3).cell 2 (by simp)).1
        clear hw3 e0 e2
        have hzl2 : zs.length ≤ 2097152 := by have := hzl.out; omega
        cases ty with
        | true =>
          obtain ⟨f0, _⟩ := b3.cell 0 (by simp)
          obtain ⟨f1, _⟩ := b3.cell 1 (by simp)
          obtain ⟨f2, _⟩ := b3.cell 2 (by simp)
          simp only [List.getElem_toArray, List.getElem_cons_zero, List.getElem_cons_succ] at f0 f1 f2
          obtain ⟨z, hz⟩ : ∃ z : Atr, z = ⟨xd, [], none, 0, []⟩ := ⟨_, rfl⟩
          obtain ⟨w4, hw4⟩ : ∃ W, w3.alloc (.cells #[.string (S xd), .string ⟨#[]⟩, .slice none 0 0] 32) = W := ⟨_, rfl⟩
          have b4 : Box w4 w3.heap.size 32 #[.string (S z.d), .string (S z.c), .slice z.a z.l.length z.n] := by rw [hz, ← hw4]; exact Box.new _ _ _
          have hb4 : Below w3.heap.size w3 w4 := by rw [← hw4]; exact (Below.refl _ _).alloc (Nat.le_refl _) _
          have hM4 : MadeA w4 w1.heap.size (.slice va zs.length vc) zs := (H2.out.1.below hb3).below hb4
          have hs4 : w1.heap.size ≤ w4.heap.size := by have := H2.out.2.2.2.2.1; have := hb3.size; have := hb4.size; omega
          have hM4' : Hid (MadeA w4 w1.heap.size (.slice va zs.length vc) zs ∧ OwnS w4 w1.heap.size (.slice z.a z.l.length z.n) z.l ∧ Below w1.heap.size w1 w4) := ⟨hM4, by rw [hz]; exact ownS_nil _ _, H2.out.2.1.trans ((hb3.trans (hb4.mono hb3.size)).mono H2.out.2.1.size)⟩
          have hO4 := hM4.1
          have hfz : Hid (zs.map pl ++ [pl z] = selL q true (xs.take (i + 1))) := by
            unfold Hid
            rw [htk.out, H2.out.2.2.2.2.2.2, hz]
            rfl
          clear hM4 hz hb4
          go_wp2_with (at_builtin; refine push_attr _ rfl _ _ rfl w1.heap.size _ zs z w3.heap.size rfl rfl hO4 b4 hs4 hzl2 ?_; intro g' cap' w5 hO5 hk5 hb5; clear hw4 b4)
          have hfin : Hid (MadeA w5 w1.heap.size (.slice (some ⟨g', 0, none⟩) (zs.length + 1) cap') (zs ++ [z]) ∧ (zs ++ [z]).map pl = selL q true (xs.take (i + 1)) ∧ Below w1.heap.size w1 w5) := by
            refine ⟨hM4'.out.1.push hM4'.out.2.1 hO5 hk5, by rw [List.map_append]; exact hfz.out, ?_⟩
            exact hM4'.out.2.2.trans hb5
          go_roundw
          case rel => exact ⟨i + 1, zs ++ [z], hlt'.out, by simp, hfin⟩
          case measure => have := hlt'.out; simp [intOf]; omega
        | false =>
          have hCl : Hid (Calls Tryd.prog 24 #[.slice xa xl.length xn] w3 fun e w' => ∃ v, e = .returned v ∧ OwnS w' w3.heap.size v xl ∧ Below w3.heap.size w3 w') := clone_any xl xa xn w3 H2.out.2.2.2.2.2.1 (H2.out.2.2.2.1.below hb3)
          go_upto_region 10 with (go_at_call 24; refine hCl.out.mono ?_; rintro e w4 ⟨v4, rfl, hO, hb4⟩; obtain ⟨ca, cc, rfl, _⟩ := owns_slice (show World.ownsRow _ _ 9 1 _ _ _ from hO); have b4 := b3.below hb4; have f2 : w4.cell? ⟨w2.heap.size, 2, none⟩ = some (.slice none 0 0) := (b4.cell 2 (by simp)).1; have y2 : w4.frozen? ⟨w2.heap.size, 2, none⟩ = false := (b4.cell 2 (by simp)).2)
          obtain ⟨w5, hw5⟩ : ∃ W, w4.setCell ⟨w2.heap.size, 2, none⟩ (.slice ca xl.length cc) = W := ⟨_, rfl⟩
          rw [hw5]
          have b5 : Box w5 w2.heap.size 32 #[.string (S xd), .string ⟨#[]⟩, .slice ca xl.length cc] := by rw [← hw5]; exact b4.set 2 _
          have hsz : w2.heap.size < w3.heap.size := b3.lt
          have keep5 : ∀ k, k < w2.heap.size → w5.heap[k]? = w2.heap[k]? := fun k hk => by
            rw [← hw5, Below.heap_setCell _ _ _ _ (by show k ≠ w2.heap.size; omega), hb4.block k (by omega), hb3.block k hk]
          have hB5 : Below w2.heap.size w2 w5 := by rw [← hw5]; exact (hb3.trans (hb4.mono (by omega))).setCell (p := ⟨w2.heap.size, 2, none⟩) (Nat.le_refl _) _
          have hO5 : OwnS w5 w1.heap.size (.slice ca xl.length cc) xl := by
            rw [← hw5]
            refine owns_base (owns_same (show World.ownsRow _ _ 9 1 _ _ _ from hO) (fun k hk => Below.heap_setCell _ _ _ _ ?_)) (by have := H2.out.2.2.2.2.1; omega)
            have := (World.ownsRow.lt (show World.ownsRow _ _ 9 1 _ _ _ from hO) k hk).1
            show k ≠ w2.heap.size
            omega
          have hM5 : MadeA w5 w1.heap.size (.slice va zs.length vc) zs := H2.out.1.same keep5
          clear hw5 b4 f2 y2 hO hb4 hCl e2'
          obtain ⟨f0, _⟩ := b5.cell 0 (by simp)
          obtain ⟨f1, _⟩ := b5.cell 1 (by simp)
          obtain ⟨f2, _⟩ := b5.cell 2 (by simp)
          simp only [List.getElem_toArray, List.getElem_cons_zero, List.getElem_cons_succ] at f0 f1 f2
          obtain ⟨z, hz⟩ : ∃ z : Atr, z = ⟨xd, [], ca, cc, xl⟩ := ⟨_, rfl⟩
          obtain ⟨w6, hw6⟩ : ∃ W, w5.alloc (.cells #[.string (S xd), .string ⟨#[]⟩, .slice ca xl.length cc] 32) = W := ⟨_, rfl⟩
          have b6 : Box w6 w5.heap.size 32 #[.string (S z.d), .string (S z.c), .slice z.a z.l.length z.n] := by rw [hz, ← hw6]; exact Box.new _ _ _
          have hb6 : Below w5.heap.size w5 w6 := by rw [← hw6]; exact (Below.refl _ _).alloc (Nat.le_refl _) _
          have hM6 : MadeA w6 w1.heap.size (.slice va zs.length vc) zs := hM5.below hb6
          have hs6 : w1.heap.size ≤ w6.heap.size := by have := H2.out.2.2.2.2.1; have := hB5.size; have := hb6.size; omega
          have hM6' : Hid (MadeA w6 w1.heap.size (.slice va zs.length vc) zs ∧ OwnS w6 w1.heap.size (.slice z.a z.l.length z.n) z.l ∧ Below w1.heap.size w1 w6) := ⟨hM6, by rw [hz]; exact ownS_below hO5 hb6, H2.out.2.1.trans ((hB5.trans (hb6.mono hB5.size)).mono H2.out.2.1.size)⟩
          have hO6 := hM6.1
          have hfz : Hid (zs.map pl ++ [pl z] = selL q false (xs.take (i + 1))) := by
            unfold Hid
            rw [htk.out, H2.out.2.2.2.2.2.2, hz]
            rfl
          clear hM6 hM5 hz hb6 hO5 hB5 keep5
          go_wp2_with (at_builtin; refine push_attr _ rfl _ _ rfl w1.heap.size _ zs z w5.heap.size rfl rfl hO6 b6 hs6 hzl2 ?_; intro g' cap' w7 hO7 hk7 hb7; clear hw6 b6)
          have hfin : Hid (MadeA w7 w1.heap.size (.slice (some ⟨g', 0, none⟩) (zs.length + 1) cap') (zs ++ [z]) ∧ (zs ++ [z]).map pl = selL q false (xs.take (i + 1)) ∧ Below w1.heap.size w1 w7) := by
            refine ⟨hM6'.out.1.push hM6'.out.2.1 hO7 hk7, by rw [List.map_append]; exact hfz.out, ?_⟩
            exact hM6'.out.2.2.trans hb7
          go_roundw
          case rel => exact ⟨i + 1, zs ++ [z], hlt'.out, by simp, hfin⟩
          case measure => have := hlt'.out; simp [intOf]; omega
    · have hie : i = xs.length := by omega
      subst hie
      rw [List.take_length] at hI
      have k1 : ¬ (xs.length : Int) < (xs.length : Int) := by omega
      go_wp2_with fail
      go_ret
      exact ⟨⟨_, rfl, zs, hI.out.1.base hB1'.out.size, hI.out.2.1⟩, hBr⟩
end Go.Proofs.YtdeeegocjgikoaaDoor
