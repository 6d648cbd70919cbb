import Derived.Test.YtnjakapoggjicaaDoorEnA
namespace Go.Proofs.YtnjakapoggjicaaDoor
open Go.RowKit
set_option linter.unusedVariables false

/-- The values of the attributes that are asked for. -/
def vals (cv : List UInt8 → Bool) (xs : List Atr) : List (List UInt8) := xs.flatMap (fun x => if cv x.c then x.l else [])
theorem vals_snoc (cv : List UInt8 → Bool) (xs : List Atr) (x : Atr) : vals cv (xs ++ [x]) = vals cv xs ++ (if cv x.c then x.l else []) := by simp [vals]
theorem vals_le (cv : List UInt8 → Bool) (xs : List Atr) : (vals cv xs).length ≤ (prs xs).length := by
  induction xs with
  | nil => exact Nat.le_refl _
  | cons x xs ih =>
    unfold vals prs at *
    simp only [List.flatMap_cons, List.length_append, List.length_map]
    have h1 : (if cv x.c = true then x.l else []).length ≤ x.l.length := by split <;> simp
    omega
theorem vals_pl (cv : List UInt8 → Bool) {xs ys : List Atr} (h : ys.map pl = xs.map pl) : vals cv ys = vals cv xs := by
  have e : ∀ zs : List Atr, vals cv zs = (zs.map pl).flatMap (fun t => if cv t.2.1 then t.2.2 else []) := fun zs => by
    unfold vals
    rw [List.flatMap_map]
    rfl
  rw [e, e, h]
/-- A question that is asked of canonical forms, as a call answers it. -/
def CovH (f : FuncId) (D : ByteArray) (cv : List UInt8 → Bool) (w : World) : Prop := ∀ W, Below w.heap.size w W → ∀ c : List UInt8, c.length ≤ 1048576 → Calls Tryd.prog f #[.string D, .string (S c)] W fun r w' => r = .returned (.bool (cv c)) ∧ Below W.heap.size W w'
theorem CovH.below {f : FuncId} {D : ByteArray} {cv : List UInt8 → Bool} {w w' : World} (h : CovH f D cv w) (hb : Below w.heap.size w w') : CovH f D cv w' := fun W hW c hc => h W (hb.trans (hW.mono hb.size)) c hc

/-- What stands while values are gathered. -/
def VSt (w : World) (e v : Value) (l : List (List UInt8)) (W : World) : Prop := Box W w.heap.size 25 (match e with | .agg cs => cs | _ => #[]) ∧ OwnS W (w.heap.size + 1) v l ∧ Below w.heap.size w W
theorem VSt.past {w W W' : World} {e v : Value} {l : List (List UInt8)} (h : VSt w e v l W) (hb : Below W.heap.size W W') : VSt w e v l W' := ⟨h.1.below hb, ownS_below h.2.1 hb, h.2.2.trans (hb.mono h.2.2.size)⟩
theorem VSt.size {w W : World} {e v : Value} {l : List (List UInt8)} (h : VSt w e v l W) : w.heap.size + 1 ≤ W.heap.size := h.1.lt

set_option maxRecDepth 100000 in
set_option maxHeartbeats 2000000 in
theorem values_any (D : ByteArray) (cv : List UInt8 → Bool) (ln : Int) (nm : ByteArray) (ka : Option Addr) (kn kc : Nat) (xs : List Atr) (a : Option Addr) (c : Nat) (w : World) (hn : xs.length ≤ 1048576) (hx : ∀ x ∈ xs, x.c.length ≤ 1048576) (hp : (vals cv xs).length ≤ 1048576) (h : ARow w a xs) (hC : CovH 13 D cv w) :
    Calls Tryd.prog 5 #[.agg #[.int .i64 ln, .string nm, .slice ka kn kc, .slice a xs.length c], .string D] w fun e w' => (∃ v, e = .returned v ∧ OwnS w' w.heap.size v (vals cv xs)) ∧ Below w.heap.size w w' := by
  have hall : Hid (∀ i, (vals cv (xs.take i)).length ≤ 1048576) := fun i => by
    have h2 : vals cv xs = vals cv (xs.take i) ++ vals cv (xs.drop i) := by
      unfold vals
      rw [← List.flatMap_append, List.take_append_drop]
    rw [h2, List.length_append] at hp
    omega
  have h' : Hid (ARow w a xs) := h
  have hx' : Hid (∀ x ∈ xs, x.c.length ≤ 1048576) := hx
  have hC' : Hid (CovH 13 D cv w) := hC
  obtain ⟨Wa, hWa⟩ : ∃ W, w.alloc (.cells #[.int .i64 ln, .string nm, .slice ka kn kc, .slice a xs.length c] 25) = W := ⟨_, rfl⟩
  have pa : Box Wa w.heap.size 25 #[.int .i64 ln, .string nm, .slice ka kn kc, .slice a xs.length c] := by rw [← hWa]; exact Box.new _ _ _
  have hI0 : Hid (VSt w (.agg #[.int .i64 ln, .string nm, .slice ka kn kc, .slice a xs.length c]) (.slice none 0 0) (vals cv (xs.take 0)) Wa) := ⟨pa, ownS_nil _ _, by rw [← hWa]; exact (Below.refl _ _).alloc (Nat.le_refl _) _⟩
  have c3 : Wa.cell? ⟨w.heap.size, 3, none⟩ = some (.slice a xs.length c) := (pa.cell 3 (by simp)).1
  clear h hx hC pa hp
  go_enter Tryd.func5, Tryd.ntmps5
  go_wp2_with fail
  clear c3 hWa
  go_loopw [5, 11] (fun v iv wr => ∃ (i : Nat), i ≤ xs.length ∧ iv = .int .i64 (i : Int) ∧ Hid (VSt w (.agg #[.int .i64 ln, .string nm, .slice ka kn kc, .slice a xs.length c]) v (vals cv (xs.take i)) wr)) (fun _ iv _ => xs.length - (intOf iv).toNat)
  case atStart => exact ⟨0, Nat.zero_le _, rfl, hI0⟩
  case round =>
    obtain ⟨i, hi, rfl, hI⟩ := hrel
    clear hI0
    obtain ⟨va, vc, hv, _⟩ := owns_slice (show World.ownsRow _ _ 9 1 _ _ _ from hI.out.2.1)
    subst hv
    by_cases hlt : i < xs.length
    · obtain ⟨⟨b, off, rfl, d0, d1, d2⟩, hrow⟩ := (h'.out.below hI.out.2.2) i hlt
      have i0 : (0 : Int) ≤ (i : Int) := Int.natCast_nonneg _
      have i1 : (i : Int) < (xs.length : Int) := Int.ofNat_lt.2 hlt
      have htk : Hid (vals cv (xs.take (i + 1)) = vals cv (xs.take i) ++ (if cv xs[i].c then xs[i].l else [])) := by
        unfold Hid
        rw [List.take_succ_eq_append_getElem hlt, vals_snoc]
      have hxc := hx'.out _ (List.getElem_mem hlt)
      obtain ⟨⟨xd, xc, xa, xn, xl⟩, hx⟩ : ∃ x, xs[i] = x := ⟨_, rfl⟩
      rw [hx] at d0 d1 d2 htk hrow hxc
      dsimp only at d0 d1 d2 htk hrow hxc
      have hlt' : Hid (i < xs.length) := hlt
      obtain ⟨wA, hwA⟩ : ∃ W, wr.alloc (.cells #[.string (S xd), .string (S xc), .slice xa xl.length xn] 34) = W := ⟨_, rfl⟩
      have bA : Box wA wr.heap.size 34 #[.string (S xd), .string (S xc), .slice xa xl.length xn] := by rw [← hwA]; exact Box.new _ _ _
      have hbA : Below wr.heap.size wr wA := by rw [← hwA]; exact (Below.refl _ _).alloc (Nat.le_refl _) _
      have hIA := hI.out.past hbA
      have hK : Hid (Calls Tryd.prog 13 #[.string D, .string (S xc)] wA fun r w' => r = .returned (.bool (cv xc)) ∧ Below wA.heap.size wA w') := hC'.out wA hIA.2.2 xc hxc
      have e1 : wA.cell? ⟨wr.heap.size, 1, none⟩ = some (.string (S xc)) := (bA.cell 1 (by simp)).1
      have H1 : Hid (VSt w (.agg #[.int .i64 ln, .string nm, .slice ka kn kc, .slice (some ⟨b, off, none⟩) xs.length c]) (.slice va (vals cv (xs.take i)).length vc) (vals cv (xs.take i)) wA ∧ Box wA wr.heap.size 34 #[.string (S xd), .string (S xc), .slice xa xl.length xn] ∧ Row wA xa xl) := ⟨hIA, bA, hrow.below hbA⟩
      clear hrow hx hlt bA hI hIA hbA
      obtain ⟨L, hL⟩ : ∃ L, vals cv (xs.take i) = L := ⟨_, rfl⟩
      have hLn : Hid (L.length + xl.length ≤ 2097152 ∨ cv xc = false) := by
        unfold Hid
        cases hcv : cv xc with
        | false => exact Or.inr rfl
        | true =>
          left
          have := hall.out (i + 1)
          rw [htk.out, hcv, if_pos rfl, List.length_append, hL] at this
          omega
      rw [hL] at H1 htk
      rw [hL]
      go_upto_region 5 with fail
      clear d0 d1 d2 hwA
      generalize wr.heap.size = q at *
      cases hcv : cv xc with
      | false =>
        rw [hcv] at hK htk
        go_wp2_with (go_at_call 13; refine hK.out.mono ?_; rintro e w2 ⟨rfl, hb2⟩)
        have hfin : Hid (VSt w (.agg #[.int .i64 ln, .string nm, .slice ka kn kc, .slice (some ⟨b, off, none⟩) xs.length c]) (.slice va L.length vc) (vals cv (xs.take (i + 1))) w2) := by
          unfold Hid
          rw [htk.out]
          simp only [Bool.false_eq_true, if_false, List.append_nil]
          exact H1.out.1.past hb2
        go_roundw
        case rel => exact ⟨i + 1, hlt'.out, by simp, hfin⟩
        case measure => have := hlt'.out; simp [intOf]; omega
      | true =>
        rw [hcv] at hK htk
        have hLn' : L.length + xl.length ≤ 2097152 := by
          rcases hLn.out with h | h
          · exact h
          · rw [hcv] at h; cases h
        have hApp : Hid (∀ W, Below wA.heap.size wA W → ∃ v' w', (Builtin.append_ #[22, 22] 22 #[.slice va L.length vc, .slice xa xl.length xn]).run Tryd.prog W = .ok v' w' ∧ OwnS w' (w.heap.size + 1) v' (L ++ xl) ∧ Below (w.heap.size + 1) W w') := fun W hW => by
          have hV := H1.out.1.past hW
          exact append_row W (w.heap.size + 1) _ L xl xa xl.length xn hV.2.1 (H1.out.2.2.below hW) rfl hV.size (by omega)
        go_upto_region 6 with (go_at_call 13; refine hK.out.mono ?_; rintro e w2 ⟨rfl, hb2⟩)
        have e2 : w2.cell? ⟨q, 2, none⟩ = some (.slice xa xl.length xn) := ((H1.out.2.1.below hb2).cell 2 (by simp)).1
        obtain ⟨v', w3, hr, hO3, hb3⟩ := hApp.out w2 hb2
        obtain ⟨va', vc', rfl, _⟩ := owns_slice (show World.ownsRow _ _ 9 1 _ _ _ from hO3)
        obtain ⟨nn, hnn⟩ : ∃ nn, (L ++ xl).length = nn := ⟨_, rfl⟩
        rw [hnn] at hr hO3
        have hfin : Hid (VSt w (.agg #[.int .i64 ln, .string nm, .slice ka kn kc, .slice (some ⟨b, off, none⟩) xs.length c]) (.slice va' nn vc') (vals cv (xs.take (i + 1))) w3) := by
          unfold Hid
          rw [htk.out, if_pos trivial]
          have hV := H1.out.1.past hb2
          exact ⟨hV.1.of (hb3.block _ (Nat.lt_succ_self _)), hO3, hV.2.2.trans (hb3.mono (Nat.le_succ _))⟩
        clear hO3 hb3 hApp hLn hLn' hK hall hnn
        go_wp2_with (at_builtin; refine Lib.wpList_append_run _ rfl _ _ _ _ rfl _ _ rfl rfl _ _ hr ?_)
        go_roundw
        case rel => exact ⟨i + 1, hlt'.out, by simp, hfin⟩
        case measure => have := hlt'.out; simp [intOf]; omega
    · have hie : i = xs.length := by omega
      subst hie
      rw [List.take_length] at hI
      have k1 : ¬ (xs.length : Int) < (xs.length : Int) := by omega
      go_wp2_with fail
      go_ret
      exact ⟨⟨_, rfl, owns_base (show World.ownsRow _ _ 9 1 _ _ _ from hI.out.2.1) (Nat.le_succ _)⟩, hI.out.2.2⟩
end Go.Proofs.YtnjakapoggjicaaDoor

namespace Go.Proofs.YtnjakapoggjicaaDoor
open Go.RowKit
set_option linter.unusedVariables false

set_option maxRecDepth 100000 in
set_option maxHeartbeats 2000000 in
theorem rvalues_any (D : ByteArray) (cv : List UInt8 → Bool) (ln : Int) (nm : ByteArray) (ka : Option Addr) (kn kc : Nat) (xs : List Atr) (a : Option Addr) (c : Nat) (w : World) (hn : xs.length ≤ 1048576) (hx : ∀ x ∈ xs, x.c.length ≤ 1048576) (hp : (vals cv xs).length ≤ 1048576) (h : ARow w a xs) (hC : CovH 16 D cv w) :
    Calls Tryd.prog 7 #[.agg #[.int .i64 ln, .string nm, .slice ka kn kc, .slice a xs.length c], .string D] w fun e w' => (∃ v, e = .returned v ∧ OwnS w' w.heap.size v (vals cv xs)) ∧ Below w.heap.size w w' := by
  have hall : Hid (∀ i, (vals cv (xs.take i)).length ≤ 1048576) := fun i => by
    have h2 : vals cv xs = vals cv (xs.take i) ++ vals cv (xs.drop i) := by
      unfold vals
      rw [← List.flatMap_append, List.take_append_drop]
    rw [h2, List.length_append] at hp
    omega
  have h' : Hid (ARow w a xs) := h
  have hx' : Hid (∀ x ∈ xs, x.c.length ≤ 1048576) := hx
  have hC' : Hid (CovH 16 D cv w) := hC
  obtain ⟨Wa, hWa⟩ : ∃ W, w.alloc (.cells #[.int .i64 ln, .string nm, .slice ka kn kc, .slice a xs.length c] 25) = W := ⟨_, rfl⟩
  have pa : Box Wa w.heap.size 25 #[.int .i64 ln, .string nm, .slice ka kn kc, .slice a xs.length c] := by rw [← hWa]; exact Box.new _ _ _
  have hI0 : Hid (VSt w (.agg #[.int .i64 ln, .string nm, .slice ka kn kc, .slice a xs.length c]) (.slice none 0 0) (vals cv (xs.take 0)) Wa) := ⟨pa, ownS_nil _ _, by rw [← hWa]; exact (Below.refl _ _).alloc (Nat.le_refl _) _⟩
  clear h hx hC pa hp
  go_enter Tryd.func7, Tryd.ntmps7
  go_wp2_with fail
  clear hWa
  go_loopw [5, 6] (fun v iv wr => ∃ (i : Nat), i ≤ xs.length ∧ iv = .int .i64 (i : Int) ∧ Hid (VSt w (.agg #[.int .i64 ln, .string nm, .slice ka kn kc, .slice a xs.length c]) v (vals cv (xs.take i)) wr)) (fun _ iv _ => xs.length - (intOf iv).toNat)
  case atStart => exact ⟨0, Nat.zero_le _, rfl, hI0⟩
  case round =>
    obtain ⟨i, hi, rfl, hI⟩ := hrel
    clear hI0
    obtain ⟨va, vc, hv, _⟩ := owns_slice (show World.ownsRow _ _ 9 1 _ _ _ from hI.out.2.1)
    subst hv
    have c3 : wr.cell? ⟨w.heap.size, 3, none⟩ = some (.slice a xs.length c) := (hI.out.1.cell 3 (by simp)).1
    by_cases hlt : i < xs.length
    · obtain ⟨⟨b, off, rfl, d0, d1, d2⟩, hrow⟩ := (h'.out.below hI.out.2.2) i hlt
      have i0 : (0 : Int) ≤ (i : Int) := Int.natCast_nonneg _
      have i1 : (i : Int) < (xs.length : Int) := Int.ofNat_lt.2 hlt
      have htk : Hid (vals cv (xs.take (i + 1)) = vals cv (xs.take i) ++ (if cv xs[i].c then xs[i].l else [])) := by
        unfold Hid
        rw [List.take_succ_eq_append_getElem hlt, vals_snoc]
      have hxc := hx'.out _ (List.getElem_mem hlt)
      obtain ⟨⟨xd, xc, xa, xn, xl⟩, hx⟩ : ∃ x, xs[i] = x := ⟨_, rfl⟩
      rw [hx] at d0 d1 d2 htk hrow hxc
      dsimp only at d0 d1 d2 htk hrow hxc
      have hlt' : Hid (i < xs.length) := hlt
      have hK : Hid (Calls Tryd.prog 16 #[.string D, .string (S xc)] wr fun r w' => r = .returned (.bool (cv xc)) ∧ Below wr.heap.size wr w') := hC'.out wr hI.out.2.2 xc hxc
      have H1 : Hid (VSt w (.agg #[.int .i64 ln, .string nm, .slice ka kn kc, .slice (some ⟨b, off, none⟩) xs.length c]) (.slice va (vals cv (xs.take i)).length vc) (vals cv (xs.take i)) wr ∧ wr.cell? ⟨b, off + i * 3 + 2, none⟩ = some (.slice xa xl.length xn) ∧ Row wr xa xl) := ⟨hI.out, d2, hrow⟩
      clear hrow hx hlt hI d0 d2
      obtain ⟨L, hL⟩ : ∃ L, vals cv (xs.take i) = L := ⟨_, rfl⟩
      have hLn : Hid (L.length + xl.length ≤ 2097152 ∨ cv xc = false) := by
        unfold Hid
        cases hcv : cv xc with
        | false => exact Or.inr rfl
        | true =>
          left
          have := hall.out (i + 1)
          rw [htk.out, hcv, if_pos rfl, List.length_append, hL] at this
          omega
      rw [hL] at H1 htk
      rw [hL]
      cases hcv : cv xc with
      | false =>
        rw [hcv] at hK htk
        go_wp2_with (go_at_call 16; refine hK.out.mono ?_; rintro e w2 ⟨rfl, hb2⟩)
        have hfin : Hid (VSt w (.agg #[.int .i64 ln, .string nm, .slice ka kn kc, .slice (some ⟨b, off, none⟩) xs.length c]) (.slice va L.length vc) (vals cv (xs.take (i + 1))) w2) := by
          unfold Hid
          rw [htk.out]
          simp only [Bool.false_eq_true, if_false, List.append_nil]
          exact H1.out.1.past hb2
        go_roundw
        case rel => exact ⟨i + 1, hlt'.out, by simp, hfin⟩
        case measure => have := hlt'.out; simp [intOf]; omega
      | true =>
        rw [hcv] at hK htk
        have hLn' : L.length + xl.length ≤ 2097152 := by
          rcases hLn.out with h | h
          · exact h
          · rw [hcv] at h; cases h
        have hApp : Hid (∀ W, Below wr.heap.size wr W → ∃ v' w', (Builtin.append_ #[22, 22] 22 #[.slice va L.length vc, .slice xa xl.length xn]).run Tryd.prog W = .ok v' w' ∧ OwnS w' (w.heap.size + 1) v' (L ++ xl) ∧ Below (w.heap.size + 1) W w') := fun W hW => by
          have hV := H1.out.1.past hW
          exact append_row W (w.heap.size + 1) _ L xl xa xl.length xn hV.2.1 (H1.out.2.2.below hW) rfl hV.size (by omega)
        go_upto_region 7 with (go_at_call 16; refine hK.out.mono ?_; rintro e w2 ⟨rfl, hb2⟩)
        have e3 : w2.cell? ⟨w.heap.size, 3, none⟩ = some (.slice (some ⟨b, off, none⟩) xs.length c) := ((H1.out.1.past hb2).1.cell 3 (by simp)).1
        have e2 : w2.cell? ⟨b, off + i * 3 + 2, none⟩ = some (.slice xa xl.length xn) := by rw [hb2.cell (World.block_lt_of_cell? wr _ H1.out.2.1)]; exact H1.out.2.1
        obtain ⟨v', w3, hr, hO3, hb3⟩ := hApp.out w2 hb2
        obtain ⟨va', vc', rfl, _⟩ := owns_slice (show World.ownsRow _ _ 9 1 _ _ _ from hO3)
        obtain ⟨nn, hnn⟩ : ∃ nn, (L ++ xl).length = nn := ⟨_, rfl⟩
        rw [hnn] at hr hO3
        have hfin : Hid (VSt w (.agg #[.int .i64 ln, .string nm, .slice ka kn kc, .slice (some ⟨b, off, none⟩) xs.length c]) (.slice va' nn vc') (vals cv (xs.take (i + 1))) w3) := by
          unfold Hid
          rw [htk.out, if_pos trivial]
          have hV := H1.out.1.past hb2
          exact ⟨hV.1.of (hb3.block _ (Nat.lt_succ_self _)), hO3, hV.2.2.trans (hb3.mono (Nat.le_succ _))⟩
        clear hO3 hb3 hApp hLn hLn' hK hall hnn c3 d1
        go_wp2_with (at_builtin; refine Lib.wpList_append_run _ rfl _ _ _ _ rfl _ _ rfl rfl _ _ hr ?_)
        go_roundw
        case rel => exact ⟨i + 1, hlt'.out, by simp, hfin⟩
        case measure => have := hlt'.out; simp [intOf]; omega
    · have hie : i = xs.length := by omega
      subst hie
      rw [List.take_length] at hI
      have k1 : ¬ (xs.length : Int) < (xs.length : Int) := by omega
      go_wp2_with fail
      go_ret
      exact ⟨⟨_, rfl, owns_base (show World.ownsRow _ _ 9 1 _ _ _ from hI.out.2.1) (Nat.le_succ _)⟩, hI.out.2.2⟩

set_option maxRecDepth 100000 in
set_option maxHeartbeats 2000000 in
theorem rhas_any (D : ByteArray) (cv : List UInt8 → Bool) (ln : Int) (nm : ByteArray) (ka : Option Addr) (kn kc : Nat) (xs : List Atr) (a : Option Addr) (c : Nat) (w : World) (hn : xs.length ≤ 1048576) (hx : ∀ x ∈ xs, x.c.length ≤ 1048576) (hp : (vals cv xs).length ≤ 1048576) (h : ARow w a xs) (hC : CovH 16 D cv w) :
    Calls Tryd.prog 8 #[.agg #[.int .i64 ln, .string nm, .slice ka kn kc, .slice a xs.length c], .string D] w fun e w' => e = .returned (.bool (decide (0 < (vals cv xs).length))) ∧ Below w.heap.size w w' := by
  obtain ⟨Wa, hWa⟩ : ∃ W, w.alloc (.cells #[.int .i64 ln, .string nm, .slice ka kn kc, .slice a xs.length c] 25) = W := ⟨_, rfl⟩
  have pa : Box Wa w.heap.size 25 #[.int .i64 ln, .string nm, .slice ka kn kc, .slice a xs.length c] := by rw [← hWa]; exact Box.new _ _ _
  have hB : Below w.heap.size w Wa := by rw [← hWa]; exact (Below.refl _ _).alloc (Nat.le_refl _) _
  have hV : Hid (Calls Tryd.prog 7 #[.agg #[.int .i64 ln, .string nm, .slice ka kn kc, .slice a xs.length c], .string D] Wa fun e w' => (∃ v, e = .returned v ∧ OwnS w' Wa.heap.size v (vals cv xs)) ∧ Below Wa.heap.size Wa w') := rvalues_any D cv ln nm ka kn kc xs a c Wa hn hx hp (h.below hB) (hC.below hB)
  obtain ⟨c0, _⟩ := pa.cell 0 (by simp)
  obtain ⟨c1, _⟩ := pa.cell 1 (by simp)
  obtain ⟨c2, _⟩ := pa.cell 2 (by simp)
  obtain ⟨c3, _⟩ := pa.cell 3 (by simp)
  simp only [List.getElem_toArray, List.getElem_cons_zero, List.getElem_cons_succ] at c0 c1 c2 c3
  have hB' : Hid (Below w.heap.size w Wa) := hB
  clear h hC hx hp pa hB
  obtain ⟨N, hN⟩ : ∃ N, (vals cv xs).length = N := ⟨_, rfl⟩
  rw [hN]
  go_enter Tryd.func8, Tryd.ntmps8
  go_wp2_with (go_at_call 7; refine hV.out.mono ?_; rintro e w2 ⟨⟨v, rfl, hO⟩, hb2⟩; obtain ⟨va, vc, rfl, _⟩ := owns_slice (show World.ownsRow _ _ 9 1 _ _ _ from hO); rw [hN])
  go_ret
  exact ⟨by simp, hB'.out.trans (hb2.mono hB'.out.size)⟩
end Go.Proofs.YtnjakapoggjicaaDoor

namespace Go.Proofs.YtnjakapoggjicaaDoor
open Go.RowKit
set_option linter.unusedVariables false

/-- Has an attribute that is asked for a value? -/
def asks (cv : List UInt8 → Bool) (x : Atr) : Bool := decide (0 < x.l.length) && cv x.c
theorem vals_any (cv : List UInt8 → Bool) (xs : List Atr) : decide (0 < (vals cv xs).length) = xs.any (asks cv) := by
  induction xs with
  | nil => rfl
  | cons x xs ih =>
    rw [List.any_cons, ← ih]
    unfold vals asks
    rw [List.flatMap_cons, List.length_append]
    cases h : cv x.c with
    | false => simp
    | true =>
      simp only [if_true, Bool.and_true]
      by_cases h1 : 0 < x.l.length
      · simp [h1]; omega
      · have : x.l.length = 0 := by omega
        simp [this]

set_option maxRecDepth 100000 in
set_option maxHeartbeats 1000000 in
theorem hasTest_any (D : ByteArray) (cv : List UInt8 → Bool) (x : Atr) (g : Nat) (w : World) (hxc : x.c.length ≤ 1048576) (hg : Box w g 9 #[.string D]) (hC : CovH 13 D cv w) :
    Calls Tryd.prog 15 #[.agg #[.string (S x.d), .string (S x.c), .slice x.a x.l.length x.n], .pointer (some ⟨g, 0, none⟩)] w fun e w' => e = .returned (.bool (asks cv x)) ∧ Below w.heap.size w w' := by
  obtain ⟨xd, xc, xa, xn, xl⟩ := x
  dsimp only at *
  obtain ⟨Wa, hWa⟩ : ∃ W, w.alloc (.cells #[.string (S xd), .string (S xc), .slice xa xl.length xn] 34) = W := ⟨_, rfl⟩
  have pa : Box Wa w.heap.size 34 #[.string (S xd), .string (S xc), .slice xa xl.length xn] := by rw [← hWa]; exact Box.new _ _ _
  have hB : Below w.heap.size w Wa := by rw [← hWa]; exact (Below.refl _ _).alloc (Nat.le_refl _) _
  have hK : Hid (Calls Tryd.prog 13 #[.string D, .string (S xc)] Wa fun r w' => r = .returned (.bool (cv xc)) ∧ Below Wa.heap.size Wa w') := hC Wa hB xc hxc
  obtain ⟨c1, _⟩ := pa.cell 1 (by simp)
  obtain ⟨c2, _⟩ := pa.cell 2 (by simp)
  obtain ⟨e0, _⟩ := (hg.below hB).cell 0 (by simp)
  simp only [List.getElem_toArray, List.getElem_cons_zero, List.getElem_cons_succ] at c1 c2 e0
  have hB' : Hid (Below w.heap.size w Wa) := hB
  clear pa hB hC hg
  by_cases h0 : 0 < xl.length
  · have k0 : decide ((xl.length : Int) > 0) = true := decide_eq_true (by omega)
    have k1 : decide (0 < (xl.length : Int)) = true := decide_eq_true (by omega)
    have k2 : (0 : Int) < (xl.length : Int) := by omega
    have hA : Hid (asks cv ⟨xd, xc, xa, xn, xl⟩ = cv xc) := by unfold Hid asks; rw [decide_eq_true h0]; rfl
    rw [hA.out]
    go_enter Tryd.func15, Tryd.ntmps15
    go_wp2_with (go_at_call 13; refine hK.out.mono ?_; rintro e w2 ⟨rfl, hb2⟩)
    go_ret
    exact ⟨rfl, hB'.out.trans (hb2.mono hB'.out.size)⟩
  · have k0 : decide ((xl.length : Int) > 0) = false := decide_eq_false (by omega)
    have k1 : decide (0 < (xl.length : Int)) = false := decide_eq_false (by omega)
    have k2 : ¬ (0 : Int) < (xl.length : Int) := by omega
    have hA : Hid (asks cv ⟨xd, xc, xa, xn, xl⟩ = false) := by unfold Hid asks; rw [decide_eq_false h0]; rfl
    rw [hA.out]
    go_enter Tryd.func15, Tryd.ntmps15
    go_wp2_with fail
    go_ret
    exact ⟨rfl, hB'.out⟩

set_option maxRecDepth 100000 in
set_option maxHeartbeats 2000000 in
theorem indexFunc_any (D : ByteArray) (cv : List UInt8 → Bool) (xs : List Atr) (a : Option Addr) (c g : Nat) (w : World) (hn : xs.length ≤ 1048576) (hx : ∀ x ∈ xs, x.c.length ≤ 1048576) (h : ARow w a xs) (hg : Box w g 9 #[.string D]) (hC : CovH 13 D cv w) :
    Calls Tryd.prog 27 #[.slice a xs.length c, .func (.func 15) #[] #[.pointer (some ⟨g, 0, none⟩)]] w fun e w' => (∃ r : Int, e = .returned (.int .i64 r) ∧ decide (r ≥ 0) = xs.any (asks cv)) ∧ Below w.heap.size w w' := by
  have h' : Hid (ARow w a xs ∧ (∀ x ∈ xs, x.c.length ≤ 1048576) ∧ Box w g 9 #[.string D] ∧ CovH 13 D cv w) := ⟨h, hx, hg, hC⟩
  clear h hx hg hC
  go_enter Tryd.func27, Tryd.ntmps27
  go_wp2_with fail
  go_loopw [8] (fun iv wr => ∃ (i : Nat), i ≤ xs.length ∧ iv = .int .i64 (i : Int) ∧ Hid ((xs.take i).any (asks cv) = false ∧ Below w.heap.size w wr)) (fun iv _ => xs.length - (intOf iv).toNat)
  case atStart => exact ⟨0, Nat.zero_le _, rfl, rfl, Below.refl _ _⟩
  case round =>
    obtain ⟨i, hi, rfl, hI⟩ := hrel
    by_cases hlt : i < xs.length
    · obtain ⟨⟨b, off, rfl, d0, d1, d2⟩, hrow⟩ := (h'.out.1.below hI.out.2) i hlt
      have i0 : (0 : Int) ≤ (i : Int) := Int.natCast_nonneg _
      have i1 : (i : Int) < (xs.length : Int) := Int.ofNat_lt.2 hlt
      have htk : Hid ((xs.take (i + 1)).any (asks cv) = ((xs.take i).any (asks cv) || asks cv xs[i])) := by
        unfold Hid
        rw [List.take_succ_eq_append_getElem hlt, List.any_append]
        simp
      have hall : Hid (asks cv xs[i] = true → xs.any (asks cv) = true) := fun hq => List.any_eq_true.2 ⟨_, List.getElem_mem hlt, hq⟩
      have hK : Hid (Calls Tryd.prog 15 #[.agg #[.string (S xs[i].d), .string (S xs[i].c), .slice xs[i].a xs[i].l.length xs[i].n], .pointer (some ⟨g, 0, none⟩)] wr fun e w' => e = .returned (.bool (asks cv xs[i])) ∧ Below wr.heap.size wr w') := hasTest_any D cv xs[i] g wr (h'.out.2.1 _ (List.getElem_mem hlt)) (h'.out.2.2.1.below hI.out.2) (h'.out.2.2.2.below hI.out.2)
      obtain ⟨x, hx⟩ : ∃ x, xs[i] = x := ⟨_, rfl⟩
      rw [hx] at d0 d1 d2 htk hK hall
      have hlt' : Hid (i < xs.length) := hlt
      clear hrow hx hlt
      cases hq : asks cv x with
      | false =>
        rw [hq] at hK htk
        go_wp2_with (go_at_call 15; refine hK.out.mono ?_; rintro e w2 ⟨rfl, hb2⟩)
        go_roundw
        case rel => exact ⟨i + 1, hlt'.out, by simp, by unfold Hid; rw [htk.out, hI.out.1]; exact ⟨rfl, hI.out.2.trans (hb2.mono hI.out.2.size)⟩⟩
        case measure => have := hlt'.out; simp [intOf]; omega
      | true =>
        rw [hq] at hK
        go_wp2_with (go_at_call 15; refine hK.out.mono ?_; rintro e w2 ⟨rfl, hb2⟩)
        go_ret
        exact ⟨⟨_, rfl, by rw [hall.out hq]; simp⟩, hI.out.2.trans (hb2.mono hI.out.2.size)⟩
    · have hie : i = xs.length := by omega
      subst hie
      rw [List.take_length] at hI
      have k1 : ¬ (xs.length : Int) < (xs.length : Int) := by omega
      go_wp2_with fail
      go_ret
      exact ⟨⟨_, rfl, by rw [hI.out.1]; rfl⟩, hI.out.2⟩

set_option maxRecDepth 100000 in
set_option maxHeartbeats 1000000 in
theorem containsFunc_any (D : ByteArray) (cv : List UInt8 → Bool) (xs : List Atr) (a : Option Addr) (c g : Nat) (w : World) (hn : xs.length ≤ 1048576) (hx : ∀ x ∈ xs, x.c.length ≤ 1048576) (h : ARow w a xs) (hg : Box w g 9 #[.string D]) (hC : CovH 13 D cv w) :
    Calls Tryd.prog 14 #[.slice a xs.length c, .func (.func 15) #[] #[.pointer (some ⟨g, 0, none⟩)]] w fun e w' => e = .returned (.bool (xs.any (asks cv))) ∧ Below w.heap.size w w' := by
  have hF := indexFunc_any D cv xs a c g w hn hx h hg hC
  have hF' : Hid (Calls Tryd.prog 27 #[.slice a xs.length c, .func (.func 15) #[] #[.pointer (some ⟨g, 0, none⟩)]] w fun e w' => (∃ r : Int, e = .returned (.int .i64 r) ∧ decide (r ≥ 0) = xs.any (asks cv)) ∧ Below w.heap.size w w') := hF
  clear hF h hg hC hx
  go_enter Tryd.func14, Tryd.ntmps14
  go_wp2_with (go_at_call 27; refine hF'.out.mono ?_; rintro e w2 ⟨⟨r, rfl, hr⟩, hb2⟩)
  go_ret
  refine ⟨?_, hb2⟩
  rw [← hr]
  rfl

set_option maxRecDepth 100000 in
set_option maxHeartbeats 1000000 in
theorem has_any (D : ByteArray) (cv : List UInt8 → Bool) (ln : Int) (nm : ByteArray) (ka : Option Addr) (kn kc : Nat) (xs : List Atr) (a : Option Addr) (c : Nat) (w : World) (hn : xs.length ≤ 1048576) (hx : ∀ x ∈ xs, x.c.length ≤ 1048576) (h : ARow w a xs) (hC : CovH 13 D cv w) :
    Calls Tryd.prog 6 #[.agg #[.int .i64 ln, .string nm, .slice ka kn kc, .slice a xs.length c], .string D] w fun e w' => e = .returned (.bool (xs.any (asks cv))) ∧ Below w.heap.size w w' := by
  obtain ⟨Wa, hWa⟩ : ∃ W, w.alloc (.cells #[.int .i64 ln, .string nm, .slice ka kn kc, .slice a xs.length c] 25) = W := ⟨_, rfl⟩
  obtain ⟨Wb, hWb⟩ : ∃ W, Wa.alloc (.cells #[.string D] 9) = W := ⟨_, rfl⟩
  have na : Wa.heap.size = w.heap.size + 1 := by rw [← hWa]; simp
  have pa : Box Wa w.heap.size 25 #[.int .i64 ln, .string nm, .slice ka kn kc, .slice a xs.length c] := by rw [← hWa]; exact Box.new _ _ _
  have p : Box Wb w.heap.size 25 #[.int .i64 ln, .string nm, .slice ka kn kc, .slice a xs.length c] := by rw [← hWb]; exact pa.past _
  have q : Box Wb (w.heap.size + 1) 9 #[.string D] := by rw [← hWb, ← na]; exact Box.new _ _ _
  have hB : Below w.heap.size w Wb := by
    rw [← hWb, ← hWa]
    exact ((Below.refl _ _).alloc (Nat.le_refl _) _).alloc (by simp) _
  have hF : Hid (Calls Tryd.prog 14 #[.slice a xs.length c, .func (.func 15) #[] #[.pointer (some ⟨w.heap.size + 1, 0, none⟩)]] Wb fun e w' => e = .returned (.bool (xs.any (asks cv))) ∧ Below Wb.heap.size Wb w') := containsFunc_any D cv xs a c (w.heap.size + 1) Wb hn hx (h.below hB) q (hC.below hB)
  obtain ⟨c3, _⟩ := p.cell 3 (by simp)
  simp only [List.getElem_toArray, List.getElem_cons_zero, List.getElem_cons_succ] at c3
  have hB' : Hid (Below w.heap.size w Wb) := hB
  clear pa p q hB h hC hx
  go_enter Tryd.func6, Tryd.ntmps6
  go_wp2_with (go_at_call 14; refine hF.out.mono ?_; rintro e w2 ⟨rfl, hb2⟩)
  go_ret
  exact ⟨rfl, hB'.out.trans (hb2.mono hB'.out.size)⟩
end Go.Proofs.YtnjakapoggjicaaDoor

namespace Go.Proofs.YtnjakapoggjicaaDoor
open Go.RowKit
set_option linter.unusedVariables false

theorem ld_entry {W : World} {g : Nat} {a b c d : Value} (h : Box W g 25 #[a, b, c, d]) (ha : a.oneCell' = true) (hb : b.oneCell' = true) (hc : c.oneCell' = true) (hd : d.oneCell' = true) : (loadVar 25 ⟨g, 0, none⟩).run Tryd.prog W = .ok (.agg #[a, b, c, d]) W :=
  run_loadVar_row W g 25 25 _ (0, 0) _ h Tryd.underlying25 rfl (by kernel_rfl)

theorem set4_keep (W : World) (g : Nat) (a b c d : Value) (k : Nat) (h : k ≠ g) : ((((W.setCell ⟨g, 0, none⟩ a).setCell ⟨g, 1, none⟩ b).setCell ⟨g, 2, none⟩ c).setCell ⟨g, 3, none⟩ d).heap[k]? = W.heap[k]? := by
  rw [Below.heap_setCell _ _ _ _ h, Below.heap_setCell _ _ _ _ h, Below.heap_setCell _ _ _ _ h, Below.heap_setCell _ _ _ _ h]
theorem set4_below {w W : World} {B g : Nat} {a b c d : Value} (h : Below B w W) (hg : B ≤ g) : Below B w ((((W.setCell ⟨g, 0, none⟩ a).setCell ⟨g, 1, none⟩ b).setCell ⟨g, 2, none⟩ c).setCell ⟨g, 3, none⟩ d) :=
  Below.setCell (Below.setCell (Below.setCell (Below.setCell h hg _) hg _) hg _) hg _

set_option maxRecDepth 100000 in
set_option maxHeartbeats 2000000 in
theorem copyEntry_any (ln : Int) (nm : ByteArray) (kl : List (List UInt8)) (ka : Option Addr) (kc : Nat) (xs : List Atr) (a : Option Addr) (c : Nat) (w : World) (hkl : kl.length ≤ 1048576) (hn : xs.length ≤ 1048576) (hl : ∀ x ∈ xs, x.l.length ≤ 1048576) (hk : Row w ka kl) (h : ARow w a xs) :
    Calls Tryd.prog 4 #[.agg #[.int .i64 ln, .string nm, .slice ka kl.length kc, .slice a xs.length c]] w fun e w' => (∃ g cap g' cap', e = .returned (.agg #[.int .i64 ln, .string nm, .slice (some ⟨g, 0, none⟩) kl.length cap, .slice (some ⟨g', 0, none⟩) xs.length cap']) ∧ Mkd w' w.heap.size g cap kl ∧ ∃ ys, CopyA w' w.heap.size g' cap' xs ys) ∧ Below w.heap.size w w' := by
  obtain ⟨Wa, hWa⟩ : ∃ W, w.alloc (.cells #[.int .i64 ln, .string nm, .slice ka kl.length kc, .slice a xs.length c] 25) = W := ⟨_, rfl⟩
  obtain ⟨Wb, hWb⟩ : ∃ W, Wa.alloc (.cells #[.int .i64 0, .string ⟨#[]⟩, .slice none 0 0, .slice none 0 0] 25) = W := ⟨_, rfl⟩
  have na : Wa.heap.size = w.heap.size + 1 := by rw [← hWa]; simp
  have nb : Wb.heap.size = w.heap.size + 2 := by rw [← hWb, World.size_alloc, na]
  have pa : Box Wa w.heap.size 25 #[.int .i64 ln, .string nm, .slice ka kl.length kc, .slice a xs.length c] := by rw [← hWa]; exact Box.new _ _ _
  have pb : Box Wb w.heap.size 25 #[.int .i64 ln, .string nm, .slice ka kl.length kc, .slice a xs.length c] := by rw [← hWb]; exact pa.past _
  have qb : Box Wb (w.heap.size + 1) 25 #[.int .i64 0, .string ⟨#[]⟩, .slice none 0 0, .slice none 0 0] := by rw [← hWb, ← na]; exact Box.new _ _ _
  have hBb : Below w.heap.size w Wb := by
    rw [← hWb, ← hWa]
    exact ((Below.refl _ _).alloc (Nat.le_refl _) _).alloc (by simp) _
  have hR : Hid (Calls Tryd.prog 11 #[.slice ka kl.length kc] Wb fun e w' => ∃ g cap, e = .returned (.slice (some ⟨g, 0, none⟩) kl.length cap) ∧ Mkd w' Wb.heap.size g cap kl ∧ Below Wb.heap.size Wb w') := roomy_any kl ka kc Wb hkl (hk.below hBb)
  have hA : Hid (∀ W, Below w.heap.size w W → Calls Tryd.prog 12 #[.slice a xs.length c] W fun e w' => (∃ g cap, e = .returned (.slice (some ⟨g, 0, none⟩) xs.length cap) ∧ ∃ ys, CopyA w' W.heap.size g cap xs ys) ∧ Below W.heap.size W w') := fun W hW => copyAttrs_any xs a c W hn hl (h.below hW)
  clear hk h hkl hn hl pa
  have c2 : Wb.cell? ⟨w.heap.size, 2, none⟩ = some (.slice ka kl.length kc) := (pb.cell 2 (by simp)).1
  go_enter Tryd.func4, Tryd.ntmps4
  go_upto_region 1 with fail
  clear hWa hWb na
  go_upto_region 2 with (go_at_call 11; refine hR.out.mono ?_; rintro e w2 ⟨g, cap, rfl, hM, hb2⟩; have p2 := pb.below hb2; have q2 := qb.below hb2; have f2 : w2.cell? ⟨w.heap.size, 2, none⟩ = some (.slice ka kl.length kc) := (p2.cell 2 (by simp)).1; have y2 : w2.frozen? ⟨w.heap.size, 2, none⟩ = false := (p2.cell 2 (by simp)).2)
  obtain ⟨w3, hw3⟩ : ∃ W, w2.setCell ⟨w.heap.size, 2, none⟩ (.slice (some ⟨g, 0, none⟩) kl.length cap) = W := ⟨_, rfl⟩
  rw [hw3]
  have p3 : Box w3 w.heap.size 25 #[.int .i64 ln, .string nm, .slice (some ⟨g, 0, none⟩) kl.length cap, .slice a xs.length c] := by rw [← hw3]; exact p2.set 2 _
  have q3 : Box w3 (w.heap.size + 1) 25 #[.int .i64 0, .string ⟨#[]⟩, .slice none 0 0, .slice none 0 0] := by rw [← hw3]; exact q2.of (Below.heap_setCell _ _ _ _ (by show w.heap.size + 1 ≠ w.heap.size; omega))
  have hM3 : Mkd w3 (w.heap.size + 2) g cap kl := by
    have := hM.lt.1
    rw [← hw3]
    exact (hM.of (Below.heap_setCell _ _ _ _ (by show g ≠ w.heap.size; omega))).base (by omega)
  have hB3 : Below w.heap.size w w3 := by rw [← hw3]; exact (hBb.trans (hb2.mono (by omega))).setCell (p := ⟨w.heap.size, 2, none⟩) (Nat.le_refl _) _
  have hA3 := hA.out w3 hB3
  have hA3' : Hid (Calls Tryd.prog 12 #[.slice a xs.length c] w3 fun e w' => (∃ g cap, e = .returned (.slice (some ⟨g, 0, none⟩) xs.length cap) ∧ ∃ ys, CopyA w' w3.heap.size g cap xs ys) ∧ Below w3.heap.size w3 w') := hA3
  clear hA3 hA hR hw3 p2 q2 f2 y2 hM hb2 c2 pb qb hBb nb
  have c3 : w3.cell? ⟨w.heap.size, 3, none⟩ = some (.slice a xs.length c) := (p3.cell 3 (by simp)).1
  go_upto_region 3 with (go_at_call 12; refine hA3'.out.mono ?_; rintro e w4 ⟨⟨g', cap', rfl, ys, hC⟩, hb4⟩; have p4 := p3.below hb4; have f4 : w4.cell? ⟨w.heap.size, 3, none⟩ = some (.slice a xs.length c) := (p4.cell 3 (by simp)).1; have y4 : w4.frozen? ⟨w.heap.size, 3, none⟩ = false := (p4.cell 3 (by simp)).2)
  obtain ⟨w5, hw5⟩ : ∃ W, w4.setCell ⟨w.heap.size, 3, none⟩ (.slice (some ⟨g', 0, none⟩) xs.length cap') = W := ⟨_, rfl⟩
  rw [hw5]
  have hs3 : w.heap.size + 1 < w3.heap.size := q3.lt
  have p5 : Box w5 w.heap.size 25 #[.int .i64 ln, .string nm, .slice (some ⟨g, 0, none⟩) kl.length cap, .slice (some ⟨g', 0, none⟩) xs.length cap'] := by rw [← hw5]; exact p4.set 3 _
  have q5 : Box w5 (w.heap.size + 1) 25 #[.int .i64 0, .string ⟨#[]⟩, .slice none 0 0, .slice none 0 0] := by rw [← hw5]; exact (q3.below hb4).of (Below.heap_setCell _ _ _ _ (by show w.heap.size + 1 ≠ w.heap.size; omega))
  have hM5 : Mkd w5 (w.heap.size + 2) g cap kl := by
    have := hM3.lt.1
    rw [← hw5]
    exact (hM3.below hb4).of (Below.heap_setCell _ _ _ _ (by show g ≠ w.heap.size; omega))
  have keep5 : ∀ k, w.heap.size + 2 ≤ k → w5.heap[k]? = w4.heap[k]? := fun k hk => by rw [← hw5]; exact Below.heap_setCell _ _ _ _ (by show k ≠ w.heap.size; omega)
  have hB5 : Below w.heap.size w w5 := by rw [← hw5]; exact (hB3.trans (hb4.mono (by omega))).setCell (p := ⟨w.heap.size, 3, none⟩) (Nat.le_refl _) _
  have hCg := hC.lt.1
  clear hw5 hA3' f4 y4 p4 c3 p3 hM3 hB3
  obtain ⟨e0, _⟩ := p5.cell 0 (by simp)
  obtain ⟨e1, _⟩ := p5.cell 1 (by simp)
  obtain ⟨e2, _⟩ := p5.cell 2 (by simp)
  obtain ⟨e3, _⟩ := p5.cell 3 (by simp)
  obtain ⟨g0, z0⟩ := q5.cell 0 (by simp)
  obtain ⟨g1, z1⟩ := q5.cell 1 (by simp)
  obtain ⟨g2, z2⟩ := q5.cell 2 (by simp)
  obtain ⟨g3, z3⟩ := q5.cell 3 (by simp)
  simp only [List.getElem_toArray, List.getElem_cons_zero, List.getElem_cons_succ] at e0 e1 e2 e3 g0 g1 g2 g3
  obtain ⟨Wz, hWz⟩ : ∃ W, (((w5.setCell ⟨w.heap.size + 1, 0, none⟩ (.int .i64 ln)).setCell ⟨w.heap.size + 1, 1, none⟩ (.string nm)).setCell ⟨w.heap.size + 1, 2, none⟩ (.slice (some ⟨g, 0, none⟩) kl.length cap)).setCell ⟨w.heap.size + 1, 3, none⟩ (.slice (some ⟨g', 0, none⟩) xs.length cap') = W := ⟨_, rfl⟩
  have hres : Hid (Box Wz (w.heap.size + 1) 25 #[.int .i64 ln, .string nm, .slice (some ⟨g, 0, none⟩) kl.length cap, .slice (some ⟨g', 0, none⟩) xs.length cap']) := by rw [← hWz]; exact (((q5.set 0 _).set 1 _).set 2 _).set 3 _
  have hkz : ∀ k, w.heap.size + 2 ≤ k → Wz.heap[k]? = w5.heap[k]? := fun k hk => by rw [← hWz]; exact set4_keep _ _ _ _ _ _ _ (by omega)
  have hBz : Below w.heap.size w Wz := by rw [← hWz]; exact set4_below hB5 (by omega)
  have hfin : Hid ((Mkd Wz w.heap.size g cap kl ∧ CopyA Wz w.heap.size g' cap' xs ys) ∧ Below w.heap.size w Wz) := by
    refine ⟨⟨?_, owns_base (owns_same (show World.ownsRow _ _ 34 3 _ _ _ from hC.1) (fun k hk => ?_)) (by omega), fun y hy => ?_, hC.2.2⟩, hBz⟩
    · have := hM5.lt.1
      exact (hM5.of (hkz _ this)).base (by omega)
    · injection hk with hk
      replace hk : g' = k := hk
      rw [hkz k (by omega), keep5 k (by omega)]
    · obtain ⟨gy, e1, e2⟩ := hC.2.1 y hy
      have := e2.lt.1
      exact ⟨gy, e1, (e2.of (by rw [hkz gy (by omega), keep5 gy (by omega)])).base (by omega)⟩
  have hWz' : Hid ((((w5.setCell ⟨w.heap.size + 1, 0, none⟩ (.int .i64 ln)).setCell ⟨w.heap.size + 1, 1, none⟩ (.string nm)).setCell ⟨w.heap.size + 1, 2, none⟩ (.slice (some ⟨g, 0, none⟩) kl.length cap)).setCell ⟨w.heap.size + 1, 3, none⟩ (.slice (some ⟨g', 0, none⟩) xs.length cap') = Wz) := hWz
  clear p5 q5 hM5 keep5 hC hB5 hb4 hCg q3 hWz hkz hBz
  go_wp2_with fail
  rw [hWz'.out]
  exact bodyPost_ret (results_cell _ _ _ rfl _ _ _ _ _ rfl (ld_entry hres.out rfl rfl rfl rfl)) rfl ⟨⟨_, _, _, _, rfl, hfin.out.1.1, ys, hfin.out.1.2⟩, hfin.out.2⟩
end Go.Proofs.YtnjakapoggjicaaDoor

namespace Go.Proofs.YtnjakapoggjicaaDoor
open Go.RowKit
set_option linter.unusedVariables false

theorem pl_canons {xs ys : List Atr} (h : ys.map pl = xs.map pl) (hl : ∀ x ∈ xs, x.c.length ≤ 1048576) : ∀ y ∈ ys, y.c.length ≤ 1048576 := fun y hy => by
  have h1 : pl y ∈ ys.map pl := List.mem_map_of_mem hy
  rw [h] at h1
  obtain ⟨x, hx, e⟩ := List.mem_map.1 h1
  have e2 : x.c = y.c := congrArg (fun t => t.2.1) e
  rw [← e2]
  exact hl x hx

set_option maxRecDepth 100000 in
set_option maxHeartbeats 2000000 in
theorem entryValues_core (D : ByteArray) (cv : List UInt8 → Bool) (ln : Int) (nm : ByteArray) (kl : List (List UInt8)) (ka : Option Addr) (kc : Nat) (xs : List Atr) (a : Option Addr) (c : Nat) (w : World) (hkl : kl.length ≤ 1048576) (hn : xs.length ≤ 1048576) (hl : ∀ x ∈ xs, x.l.length ≤ 1048576) (hx : ∀ x ∈ xs, x.c.length ≤ 1048576) (hp : (prs xs).length ≤ 1048576) (hk : Row w ka kl) (h : ARow w a xs) (hC : CovH 13 D cv w) (hR : CovH 16 D cv w) :
    Calls Tryd.prog 3 #[.agg #[.int .i64 ln, .string nm, .slice ka kl.length kc, .slice a xs.length c], .string D] w fun e w' => e = .returned (.bool true) ∧ Below w.heap.size w w' := by
  obtain ⟨Wa, hWa⟩ : ∃ W, w.alloc (.cells #[.int .i64 ln, .string nm, .slice ka kl.length kc, .slice a xs.length c] 25) = W := ⟨_, rfl⟩
  have pa : Box Wa w.heap.size 25 #[.int .i64 ln, .string nm, .slice ka kl.length kc, .slice a xs.length c] := by rw [← hWa]; exact Box.new _ _ _
  have hB : Below w.heap.size w Wa := by
    rw [← hWa]
    exact (Below.refl _ _).alloc (Nat.le_refl _) _
  have hCp : Hid (Calls Tryd.prog 4 #[.agg #[.int .i64 ln, .string nm, .slice ka kl.length kc, .slice a xs.length c]] Wa fun e w' => (∃ g cap g' cap', e = .returned (.agg #[.int .i64 ln, .string nm, .slice (some ⟨g, 0, none⟩) kl.length cap, .slice (some ⟨g', 0, none⟩) xs.length cap']) ∧ Mkd w' Wa.heap.size g cap kl ∧ ∃ ys, CopyA w' Wa.heap.size g' cap' xs ys) ∧ Below Wa.heap.size Wa w') := copyEntry_any ln nm kl ka kc xs a c Wa hkl hn hl (hk.below hB) (h.below hB)
  obtain ⟨c0, _⟩ := pa.cell 0 (by simp)
  obtain ⟨c1, _⟩ := pa.cell 1 (by simp)
  obtain ⟨c2, _⟩ := pa.cell 2 (by simp)
  obtain ⟨c3, _⟩ := pa.cell 3 (by simp)
  simp only [List.getElem_toArray, List.getElem_cons_zero, List.getElem_cons_succ] at c0 c1 c2 c3
  have hvl : (vals cv xs).length ≤ 1048576 := Nat.le_trans (vals_le cv xs) hp
  have H0 : Hid (kl.length ≤ 1048576 ∧ xs.length ≤ 1048576 ∧ (∀ x ∈ xs, x.l.length ≤ 1048576) ∧ (∀ x ∈ xs, x.c.length ≤ 1048576) ∧ (vals cv xs).length ≤ 1048576 ∧ Row Wa ka kl ∧ ARow Wa a xs ∧ Box Wa w.heap.size 25 #[.int .i64 ln, .string nm, .slice ka kl.length kc, .slice a xs.length c] ∧ Below w.heap.size w Wa ∧ CovH 13 D cv Wa ∧ CovH 16 D cv Wa) := ⟨hkl, hn, hl, hx, hvl, hk.below hB, h.below hB, pa, hB, hC.below hB, hR.below hB⟩
  clear hkl hn hl hp hk h pa hB hC hR hx hvl
  go_enter Tryd.func3, Tryd.ntmps3
  go_upto_region 2 with (go_at_call 4; refine hCp.out.mono ?_; rintro e w1 ⟨⟨gk, ck, g, cap, rfl, hM, ys, hY⟩, hb1⟩)
  clear c0 c1 c2 c3 hWa hCp
  obtain ⟨h1, h2, h3, h4, h5, h6, h7, h8, h9, hC, hR⟩ := H0.out
  have hs1 : Wa.heap.size ≤ w1.heap.size := hb1.size
  obtain ⟨w2, hw2⟩ : ∃ W, w1.alloc (.cells #[.int .i64 ln, .string nm, .slice (some ⟨gk, 0, none⟩) kl.length ck, .slice (some ⟨g, 0, none⟩) xs.length cap] 25) = W := ⟨_, rfl⟩
  rw [hw2]
  have hb2 : Below w1.heap.size w1 w2 := by rw [← hw2]; exact (Below.refl _ _).alloc (Nat.le_refl _) _
  have p2 : Box w2 w1.heap.size 25 #[.int .i64 ln, .string nm, .slice (some ⟨gk, 0, none⟩) kl.length ck, .slice (some ⟨g, 0, none⟩) xs.length cap] := by rw [← hw2]; exact Box.new _ _ _
  have hba : Below Wa.heap.size Wa w2 := hb1.trans (hb2.mono hs1)
  have hq : vals cv ys = vals cv xs := vals_pl cv hY.2.2
  have hY2 := hY.below hb2
  have hM2 := hM.below hb2
  have hlen := hY.len
  have hyc := pl_canons hY.2.2 h4
  -- what stands in every later world
  have HW : Hid (∀ W, Below w2.heap.size w2 W → Mkd W Wa.heap.size gk ck kl ∧ CopyA W Wa.heap.size g cap xs ys ∧ Box W w1.heap.size 25 #[.int .i64 ln, .string nm, .slice (some ⟨gk, 0, none⟩) kl.length ck, .slice (some ⟨g, 0, none⟩) xs.length cap] ∧ Box W w.heap.size 25 #[.int .i64 ln, .string nm, .slice ka kl.length kc, .slice a xs.length c] ∧ Row W ka kl ∧ ARow W a xs ∧ Below w.heap.size w W) := fun W hW => by
    have hz : Below Wa.heap.size Wa W := hba.trans (hW.mono hba.size)
    exact ⟨hM2.below hW, hY2.below hW, p2.below hW, h8.below hz, h6.below hz, h7.below hz, h9.trans (hz.mono h9.size)⟩
  have HV : Hid (∀ W, Below w2.heap.size w2 W → Calls Tryd.prog 5 #[.agg #[.int .i64 ln, .string nm, .slice (some ⟨gk, 0, none⟩) kl.length ck, .slice (some ⟨g, 0, none⟩) xs.length cap], .string D] W fun e w' => (∃ v, e = .returned v ∧ OwnS w' W.heap.size v (vals cv xs)) ∧ Below W.heap.size W w') := fun W hW => by
    have hz : Below Wa.heap.size Wa W := hba.trans (hW.mono hba.size)
    have hh := values_any D cv ln nm (some ⟨gk, 0, none⟩) kl.length ck ys (some ⟨g, 0, none⟩) cap W (by rw [hlen]; exact h2) hyc (by rw [hq]; exact h5) (hY2.below hW).row (hC.below hz)
    rw [hq, hlen] at hh
    exact hh
  have HH : Hid (∀ W, Below w2.heap.size w2 W → Calls Tryd.prog 6 #[.agg #[.int .i64 ln, .string nm, .slice (some ⟨gk, 0, none⟩) kl.length ck, .slice (some ⟨g, 0, none⟩) xs.length cap], .string D] W fun e w' => e = .returned (.bool (decide (0 < (vals cv xs).length))) ∧ Below W.heap.size W w') := fun W hW => by
    have hz : Below Wa.heap.size Wa W := hba.trans (hW.mono hba.size)
    have hh := has_any D cv ln nm (some ⟨gk, 0, none⟩) kl.length ck ys (some ⟨g, 0, none⟩) cap W (by rw [hlen]; exact h2) hyc (hY2.below hW).row (hC.below hz)
    rw [← vals_any, hq, hlen] at hh
    exact hh
  have HRV : Hid (∀ W, Below w2.heap.size w2 W → Calls Tryd.prog 7 #[.agg #[.int .i64 ln, .string nm, .slice ka kl.length kc, .slice a xs.length c], .string D] W fun e w' => (∃ v, e = .returned v ∧ OwnS w' W.heap.size v (vals cv xs)) ∧ Below W.heap.size W w') := fun W hW => by
    have hz : Below Wa.heap.size Wa W := hba.trans (hW.mono hba.size)
    exact rvalues_any D cv ln nm ka kl.length kc xs a c W h2 h4 h5 (h7.below hz) (hR.below hz)
  have HRH : Hid (∀ W, Below w2.heap.size w2 W → Calls Tryd.prog 8 #[.agg #[.int .i64 ln, .string nm, .slice ka kl.length kc, .slice a xs.length c], .string D] W fun e w' => e = .returned (.bool (decide (0 < (vals cv xs).length))) ∧ Below W.heap.size W w') := fun W hW => by
    have hz : Below Wa.heap.size Wa W := hba.trans (hW.mono hba.size)
    exact rhas_any D cv ln nm ka kl.length kc xs a c W h2 h4 h5 (h7.below hz) (hR.below hz)
  have HS : Hid (∀ W, Below w2.heap.size w2 W → Calls Tryd.prog 10 #[.agg #[.int .i64 ln, .string nm, .slice (some ⟨gk, 0, none⟩) kl.length ck, .slice (some ⟨g, 0, none⟩) xs.length cap], .agg #[.int .i64 ln, .string nm, .slice ka kl.length kc, .slice a xs.length c]] W fun e w' => e = .returned (.bool true) ∧ Below W.heap.size W w') := fun W hW => by
    obtain ⟨m1, m2, m3, m4, m5, m6, m7⟩ := HW.out W hW
    exact entrySpared_any ln nm kl _ gk ck ka kc xs ys g cap a c W h1 h2 h3 m1 m2 m5 m6
  have hcs : Hid (∀ W, Below w2.heap.size w2 W → (W.cell? ⟨w1.heap.size, 0, none⟩ = some (.int .i64 ln) ∧ W.cell? ⟨w1.heap.size, 1, none⟩ = some (.string nm) ∧ W.cell? ⟨w1.heap.size, 2, none⟩ = some (.slice (some ⟨gk, 0, none⟩) kl.length ck) ∧ W.cell? ⟨w1.heap.size, 3, none⟩ = some (.slice (some ⟨g, 0, none⟩) xs.length cap)) ∧ (W.cell? ⟨w.heap.size, 0, none⟩ = some (.int .i64 ln) ∧ W.cell? ⟨w.heap.size, 1, none⟩ = some (.string nm) ∧ W.cell? ⟨w.heap.size, 2, none⟩ = some (.slice ka kl.length kc) ∧ W.cell? ⟨w.heap.size, 3, none⟩ = some (.slice a xs.length c))) := fun W hW => by
    obtain ⟨m1, m2, x3, x4, m5, m6, m7⟩ := HW.out W hW
    exact ⟨⟨(x3.cell 0 (by simp)).1, (x3.cell 1 (by simp)).1, (x3.cell 2 (by simp)).1, (x3.cell 3 (by simp)).1⟩, ⟨(x4.cell 0 (by simp)).1, (x4.cell 1 (by simp)).1, (x4.cell 2 (by simp)).1, (x4.cell 3 (by simp)).1⟩⟩
  have hvl : Hid ((vals cv xs).length ≤ 1048576) := h5
  clear hw2 p2 hM hb1 hs1 hb2 hY hq hY2 hM2 hlen hyc h1 h2 h3 h4 h5 h6 h7 h8 h9 hC hR H0 hba
  obtain ⟨V, hV⟩ : ∃ V, vals cv xs = V := ⟨_, rfl⟩
  rw [hV] at HV HH HRV HRH hvl
  clear hV
  obtain ⟨bq, hbq⟩ : ∃ bq, decide (0 < V.length) = bq := ⟨_, rfl⟩
  rw [hbq] at HH HRH
  have hbb : (bq == bq) = true := by simp
  clear hbq
  obtain ⟨⟨x0, x1, x2, x3⟩, _⟩ := hcs.out w2 (Below.refl _ _)
  go_upto_region 3 with (go_at_call 5; refine (HV.out w2 (Below.refl _ _)).mono ?_; rintro e w3 ⟨⟨v, rfl, hO⟩, hb3⟩; obtain ⟨va, vc, rfl, _⟩ := owns_slice (show World.ownsRow _ _ 9 1 _ _ _ from hO))
  clear x0 x1 x2 x3
  obtain ⟨⟨x0, x1, x2, x3⟩, _⟩ := hcs.out w3 hb3
  have hO' : Hid (OwnS w3 w2.heap.size (.slice va V.length vc) V) := hO
  have hb3' : Hid (Below w2.heap.size w2 w3) := hb3
  clear hO hb3
  go_upto_region 4 with (go_at_call 6; refine (HH.out w3 hb3'.out).mono ?_; rintro e w4 ⟨rfl, hb4⟩)
  clear x0 x1 x2 x3
  have hb24 : Below w2.heap.size w2 w4 := hb3'.out.trans (hb4.mono hb3'.out.size)
  have hO4 : Hid (OwnS w4 w2.heap.size (.slice va V.length vc) V) := ownS_below hO'.out hb4
  obtain ⟨_, ⟨y0, y1, y2, y3⟩⟩ := hcs.out w4 hb24
  have hb24' : Hid (Below w2.heap.size w2 w4) := hb24
  clear hO' hb3' hb24 hb4
  go_upto_region 5 with (go_at_call 7; refine (HRV.out w4 hb24'.out).mono ?_; rintro e w5 ⟨⟨u, rfl, hO5⟩, hb5⟩; obtain ⟨ua, uc, rfl, _⟩ := owns_slice (show World.ownsRow _ _ 9 1 _ _ _ from hO5))
  clear y0 y1 y2 y3
  have hb25 : Below w2.heap.size w2 w5 := hb24'.out.trans (hb5.mono hb24'.out.size)
  obtain ⟨_, ⟨y0, y1, y2, y3⟩⟩ := hcs.out w5 hb25
  have hO45 : Hid (OwnS w5 w2.heap.size (.slice va V.length vc) V ∧ OwnS w5 w4.heap.size (.slice ua V.length uc) V ∧ Below w2.heap.size w2 w5) := ⟨ownS_below hO4.out hb5, hO5, hb25⟩
  clear hO4 hO5 hb5 hb25 hb24'
  go_upto_region 6 with (go_at_call 8; refine (HRH.out w5 hO45.out.2.2).mono ?_; rintro e w6 ⟨rfl, hb6⟩)
  clear y0 y1 y2 y3
  have hb26 : Below w2.heap.size w2 w6 := hO45.out.2.2.trans (hb6.mono hO45.out.2.2.size)
  have g5 : Hid (Calls Tryd.prog 9 #[.slice va V.length vc, .slice ua V.length uc] w6 fun e w' => e = .returned (.bool true) ∧ ∃ q, w' = w6.drewN q) := sameT_any V va ua vc uc w6 (by have := hvl.out; omega) (ownS_row (ownS_below hO45.out.1 hb6)).1 (ownS_row (ownS_below hO45.out.2.1 hb6)).1
  have g6 : Hid (∀ q, Calls Tryd.prog 10 #[.agg #[.int .i64 ln, .string nm, .slice (some ⟨gk, 0, none⟩) kl.length ck, .slice (some ⟨g, 0, none⟩) xs.length cap], .agg #[.int .i64 ln, .string nm, .slice ka kl.length kc, .slice a xs.length c]] (w6.drewN q) fun e w' => e = .returned (.bool true) ∧ Below (w6.drewN q).heap.size (w6.drewN q) w') := fun q => HS.out _ (hb26.trans (drewN_below _ _ _))
  obtain ⟨⟨x0, x1, x2, x3⟩, ⟨y0, y1, y2, y3⟩⟩ := hcs.out w6 hb26
  have hend : Hid (Below w.heap.size w w6) := (HW.out w6 hb26).2.2.2.2.2.2
  clear hb26 hb6 hO45 HV HH HRV HRH HS HW hcs
  go_wp2_with (first | (go_at_call 9; refine g5.out.mono ?_; rintro e w7 ⟨rfl, q7, rfl⟩) | (go_at_call 10; refine (g6.out _).mono ?_; rintro e w8 ⟨rfl, hb8⟩))
  go_ret
  exact ⟨rfl, hend.out.trans (((drewN_below _ _ _).trans hb8).mono hend.out.size)⟩
end Go.Proofs.YtnjakapoggjicaaDoor
