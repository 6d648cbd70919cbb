import Derived.Test.YtkcncepfncdbhaaDoorLrX
import Derived.Test.YtkcncepfncdbhaaDoorAtParse
import Derived.Test.YtkcncepfncdbhaaDoorAtBuild
import Derived.Test.YtkcncepfncdbhaaDoorBaseLoop
namespace Go.Proofs.YtkcncepfncdbhaaDoor
namespace Lr
open Go.RowKit
open TextMath (b64 fold)
set_option linter.unusedVariables false
set_option maxRecDepth 100000

/-- The words that tell a change, as they lie. -/
def ChgTab (w : World) : Prop := w.cell? ⟨0, 0, none⟩ = some (.string (S chB)) ∧ w.cell? ⟨0, 1, none⟩ = some (.string (S coB))
theorem ChgTab.below {w w' : World} (h : ChgTab w) (hb : Below w.heap.size w w') : ChgTab w' := by
  refine ⟨?_, ?_⟩
  · rw [hb.cell (World.block_lt_of_cell? w _ h.1)]; exact h.1
  · rw [hb.cell (World.block_lt_of_cell? w _ h.2)]; exact h.2
theorem beq_S (f : ByteArray) (l : List UInt8) : (f.toList == (S l).toList) = (f.data.toList == l) := by rw [Lib.toList_data, Lib.toList_data, S_l]
theorem idx0 (C0 C1 : ByteArray) (W : World) : (Instr.index 65 (.agg #[.string C0, .string C1]) (.int .i64 0)).run Tryd.prog W = .ok (.string C0) W := by kernel_rfl
theorem idx1 (C0 C1 : ByteArray) (W : World) : (Instr.index 65 (.agg #[.string C0, .string C1]) (.int .i64 1)).run Tryd.prog W = .ok (.string C1) W := by kernel_rfl
set_option maxHeartbeats 1000000 in
theorem tells_any (f : ByteArray) (w : World) (hT : ChgTab w) :
    Calls Tryd.prog 33 #[.string f] w fun e w' => e = .returned (.bool ((f.data.toList == chB) || (f.data.toList == coB))) ∧ w = w' := by
  obtain ⟨c0, c1⟩ := hT
  have q0 := beq_S f chB
  have q1 := beq_S f coB
  generalize (f.data.toList == chB) = x0 at *
  generalize (f.data.toList == coB) = x1 at *
  generalize S chB = C0 at *
  generalize S coB = C1 at *
  have r0 := idx0 C0 C1
  have r1 := idx1 C0 C1
  go_enter Tryd.func33, Tryd.ntmps33
  go_wp2_with fail
  go_loopw [6] (fun iv wr => ∃ k : Nat, iv = .int .i64 (k : Int) ∧ k ≤ 2 ∧ Hid (0 < k → x0 = false) ∧ Hid (1 < k → x1 = false) ∧ Hid (w = wr)) (fun iv _ => 2 - (intOf iv).toNat)
  case atStart => exact ⟨0, rfl, by omega, fun h => by omega, fun h => by omega, rfl⟩
  case round =>
    obtain ⟨k, rfl, hk, h0, h1, hw⟩ := hrel
    have hw' := hw.out
    subst hw'
    clear hw
    by_cases k0 : k = 0
    · subst k0
      cases x0 with
      | true =>
        go_wp2_with fail
        go_ret
        exact ⟨rfl, rfl⟩
      | false =>
        go_wp2_with fail
        go_roundw
        case rel => exact ⟨1, rfl, by omega, fun _ => by trivial, fun h => by omega, by unfold Hid; trivial⟩
        case measure => simp [intOf]
    · by_cases k1 : k = 1
      · subst k1
        have hx0 := h0.out (by omega)
        subst hx0
        cases x1 with
        | true =>
          go_wp2_with fail
          go_ret
          exact ⟨rfl, rfl⟩
        | false =>
          go_wp2_with fail
          go_roundw
          case rel => exact ⟨2, rfl, by omega, fun _ => by trivial, fun _ => by trivial, by unfold Hid; trivial⟩
          case measure => simp [intOf]
      · have k2 : k = 2 := by omega
        subst k2
        have hx0 := h0.out (by omega)
        have hx1 := h1.out (by omega)
        subst hx0 hx1
        go_wp2_with fail
        go_ret
        exact ⟨rfl, rfl⟩
theorem parseE_any (s : ByteArray) (w : World) (hs : s.size ≤ 4194304) :
    Calls Tryd.prog 34 #[.string s] w fun e w' => (∃ t a n c q, e = .returned (.tuple #[.agg #[.string t, .slice a n c], .int .i64 (if dacc (drun 0 (fold s.data.toList)) = true then 0 else 40), .int .i64 q])) ∧ Below w.heap.size w w' := by
  refine (parse_any s (S (fold s.data.toList)) rfl w hs).mono ?_
  rintro e w' ⟨h, hb⟩
  refine ⟨?_, hb⟩
  have hd := (desc_dfa (S (fold s.data.toList))).2
  rw [S_l] at hd
  rw [← hd]
  rcases h with ⟨h1, v, L, rfl, hO, _⟩ | ⟨h1, rfl⟩
  · rw [if_pos h1]
    rcases hO.2 with ⟨rfl, _⟩ | ⟨g, cap, cur, rfl, _⟩
    · exact ⟨_, _, _, _, _, rfl⟩
    · exact ⟨_, _, _, _, _, rfl⟩
  · rw [if_neg (by rw [h1]; decide)]
    exact ⟨_, _, _, _, _, rfl⟩
end Lr
end Go.Proofs.YtkcncepfncdbhaaDoor

namespace Go.Proofs.YtkcncepfncdbhaaDoor
namespace Lr
open Go.RowKit Go.Shelf
set_option linter.unusedVariables false

/-- What is no builder and no row of bytes stays as it was. -/
def Kt (w w' : World) : Prop := ∀ (k : Nat) (o : Obj), w.heap[k]? = some o → (∀ cs fz, o ≠ .cells cs 40 fz) → (∀ cs fz, o ≠ .cells cs 5 fz) → w'.heap[k]? = some o
theorem Kt.refl (w : World) : Kt w w := fun _ _ h _ _ => h
theorem Kt.trans {a b c : World} (h : Kt a b) (h' : Kt b c) : Kt a c := fun k o q1 q2 q3 => h' k o (h k o q1 q2 q3) q2 q3
theorem Kt.below {w w' : World} (h : Below w.heap.size w w') : Kt w w' := fun k o q _ _ => by rw [h.block k (Array.getElem?_eq_some_iff.1 q).1]; exact q
theorem Kt.alloc (w : World) (o : Obj) : Kt w (w.alloc o) := Kt.below ((Below.refl _ _).alloc (Nat.le_refl _) _)
theorem Kt.set {w : World} {b : Nat} {cs : Array Value} {fz : Nat × Nat} (h : w.heap[b]? = some (.cells cs 40 fz)) (j : Nat) (v : Value) : Kt w (w.setCell ⟨b, j, none⟩ v) := fun k o q1 q2 q3 => by
  have hne : k ≠ b := fun e => by
    subst e
    rw [h] at q1
    injection q1 with q1
    exact q2 cs fz q1.symm
  rw [Below.heap_setCell _ _ _ _ hne]
  exact q1
theorem Kt.grown {w w' : World} {B n : Nat} {v : Value} {xs : List Value} (h : w.ownsRow B 5 1 v n xs) (hg : w.grownBy w' v.ownBlock) : Kt w w' := fun k o q1 q2 q3 => by
  have hlt : k < w.heap.size := (Array.getElem?_eq_some_iff.1 q1).1
  rw [hg.block k hlt (fun e => ?_)]
  · exact q1
  · rcases h with ⟨h1, ⟨rfl, h2⟩ | ⟨g, cap, cur, rfl, h3, h4, h5⟩⟩
    · cases e
    · injection e with e
      subst e
      rw [h4] at q1
      injection q1 with q1
      exact q3 _ _ q1.symm

set_option maxHeartbeats 1000000 in
set_option maxRecDepth 100000 in
theorem copyCheckK_any (B b : Nat) (l : List UInt8) (w : World) (h : IsB B b l w) :
    Calls Tryd.prog 22 #[.pointer (some ⟨b, 0, none⟩)] w fun e w' => e = .returned (.tuple #[]) ∧ Lib.BuilderAt 40 5 B b (.pointer (some ⟨b, 0, none⟩)) (bv l) w' ∧ Below B w w' ∧ Kt w w' := by
  obtain ⟨j, hj, hjs⟩ := Option.map_eq_some_iff.1 extra169.sizeBuilder
  rcases h with h | h
  · have hcp := h
    obtain ⟨_, v0, hbk0, _, _⟩ := hcp
    have h0 := h.cell0
    have hsh := h.shape
    have hfz := h.frozen0
    go_enter Tryd.func22, Tryd.ntmps22
    go_wp2
    rw [Lib.run_to_unsafe w ⟨b, 0, none⟩ Tryd.underlying38 Tryd.underlying58 hj (by rw [hjs]; decide) hsh (Nat.zero_lt_succ 1)]
    simp only [Result.andThen]
    rw [Oper.upon_value]
    go_wp2
    rw [run_callFunc_extern Tryd.func31 (by kernel_rfl) (by kernel_rfl) (by kernel_rfl) (e := Extern.AbiNoEscape.same) (by kernel_rfl)]
    rw [Lib.run_noEscape]
    simp only [Result.andThen]
    rw [Oper.upon_value]
    go_wp2
    rw [Lib.run_from_unsafe w ⟨b, 0, none⟩ Tryd.underlying58 Tryd.underlying38 hj hsh extra169.liesBuilder]
    simp only [Result.andThen]
    rw [Oper.upon_value]
    go_wp2
    go_end0
    exact ⟨rfl, h.used _, (Below.refl B w).setCell (p := ⟨b, 0, none⟩) h.1 _, Kt.set hbk0 0 _⟩
  · have h0 := h.cell0
    go_enter Tryd.func22, Tryd.ntmps22
    go_wp2
    rw [Lib.run_neq_ptr_same w _ Tryd.underlying38 hj]
    go_wp2
    go_end0
    exact ⟨rfl, h, Below.refl B _, Kt.refl _⟩

set_option maxHeartbeats 1000000 in
set_option maxRecDepth 100000 in
theorem writeByteK_any (B b : Nat) (l : List UInt8) (c : UInt8) (w : World) (h : IsB B b l w) (hlen : l.length ≤ 1099511627776) (hBw : B ≤ w.heap.size) :
    Calls Tryd.prog 14 #[.pointer (some ⟨b, 0, none⟩), .int .u8 (c.toNat : Int)] w fun e w' => e = .returned .nilIface ∧ IsB B b (l ++ [c]) w' ∧ Below B w w' ∧ Kt w w' := by
  go_enter Tryd.func14, Tryd.ntmps14
  go_wp2_with (go_at_call 22; refine (copyCheckK_any B b l _ h).mono ?_)
  rintro e w1 ⟨rfl, h1, hb1, hk1⟩
  obtain ⟨hB, v, hbk, hown, hne⟩ := h1
  have c0 : w1.cell? ⟨b, 0, none⟩ = some (.pointer (some ⟨b, 0, none⟩)) := by rw [Lib.cell_of_heap hbk]; rfl
  have c1 : w1.cell? ⟨b, 1, none⟩ = some v := by rw [Lib.cell_of_heap hbk]; rfl
  obtain ⟨i0, hi, hz0, hz1, hz2⟩ := info_parts info_u8
  have hlt : b < w1.heap.size := by
    rcases Nat.lt_or_ge b w1.heap.size with h' | h'
    · exact h'
    · simp [Array.getElem?_eq_none h'] at hbk
  have hn1 : w.heap.size ≤ w1.heap.size := hb1.size
  have hbl : Hid ((bv l).length = l.length) := bv_len l
  go_wp2_with (at_builtin; refine wpList_append_own _ rfl _ _ 30 rfl B 5 i0 (.int .u8 0) 1 1 Tryd.underlying30 hi hz0 hz1 hz2 rfl (by decide) _ _ _ rfl (hown.alloc _) ⟨w1.heap.size, 0, none⟩ 1 1 [.int .u8 (c.toNat : Int)] rfl rfl ?_ ?_ ?_ ?_ ?_ ?_)
  · exact cell_one_new _ _ _
  · intro u hu; simp at hu; subst hu; rfl
  · have := hbl.out; unfold maxLen; omega
  · have := hbl.out; omega
  · simp; omega
  intro v' w2 hown' hgrow _
  have hb2 : w2.heap[b]? = some (.cells #[.pointer (some ⟨b, 0, none⟩), v] 40 (0, 0)) := by
    rw [hgrow.block b (by simp; omega) (fun e => hne e.symm), Lib.alloc_old w1 _ b hlt]
    exact hbk
  have d0 : w2.cell? ⟨b, 0, none⟩ = some (.pointer (some ⟨b, 0, none⟩)) := by rw [Lib.cell_of_heap hb2]; rfl
  have d1 : w2.cell? ⟨b, 1, none⟩ = some v := by rw [Lib.cell_of_heap hb2]; rfl
  have f1 : w2.frozen? ⟨b, 1, none⟩ = false := Lib.frozen_of_heap hb2 1
  obtain ⟨g, cap, rfl⟩ : ∃ g cap, v' = .slice (some ⟨g, 0, none⟩) ((bv l).length + 1) cap := by
    rcases hown'.2 with ⟨_, h0⟩ | ⟨g, cap, cur, hv, _⟩
    · omega
    · exact ⟨g, cap, hv⟩
  go_wp2
  go_ret
  refine ⟨rfl, Or.inr ?_, ?_, ?_⟩
  · rw [bv_app]
    exact Lib.BuilderAt.put (T := 40) (e := 5) hB hb2 (bs' := bv l ++ [.int .u8 (c.toNat : Int)]) (by simpa using hown') (by decide)
  · exact ((hb1.alloc (by omega) _).grown hgrow (by simp; omega) (fun k hk => (hown.lt k hk).1)).setCell (p := ⟨b, 1, none⟩) hB _
  · exact hk1.trans ((Kt.alloc w1 _).trans ((Kt.grown (hown.alloc _) hgrow).trans (Kt.set hb2 1 _)))

set_option maxHeartbeats 1000000 in
set_option maxRecDepth 100000 in
theorem writeStringK_any (B b : Nat) (l : List UInt8) (s : ByteArray) (w : World) (h : IsB B b l w) (hlen : l.length + s.size ≤ 1099511627776) (hBw : B ≤ w.heap.size) :
    Calls Tryd.prog 12 #[.pointer (some ⟨b, 0, none⟩), .string s] w fun e w' => e = .returned (.tuple #[.int .i64 s.size, .nilIface]) ∧ IsB B b (l ++ s.data.toList) w' ∧ Below B w w' ∧ Kt w w' := by
  go_enter Tryd.func12, Tryd.ntmps12
  go_wp2_with (go_at_call 22; refine (copyCheckK_any B b l _ h).mono ?_)
  rintro e w1 ⟨rfl, h1, hb1, hk1⟩
  obtain ⟨hB, v, hbk, hown, hne⟩ := h1
  have c0 : w1.cell? ⟨b, 0, none⟩ = some (.pointer (some ⟨b, 0, none⟩)) := by rw [Lib.cell_of_heap hbk]; rfl
  have c1 : w1.cell? ⟨b, 1, none⟩ = some v := by rw [Lib.cell_of_heap hbk]; rfl
  obtain ⟨i0, hi, hz0, hz1, hz2⟩ := info_parts info_u8
  have hlt : b < w1.heap.size := by
    rcases Nat.lt_or_ge b w1.heap.size with h' | h'
    · exact h'
    · simp [Array.getElem?_eq_none h'] at hbk
  have hn1 : w.heap.size ≤ w1.heap.size := hb1.size
  have hbl : Hid ((bv l).length = l.length) := bv_len l
  go_wp2_with (at_builtin; refine Lib.wpList_append_own_string _ rfl _ _ 30 9 rfl B 5 i0 Tryd.underlying30 Tryd.underlying9 hi hz0 hz1 hz2 _ _ _ rfl hown s rfl ?_ ?_ ?_ ?_)
  · have := hbl.out; unfold maxLen; omega
  · have := hbl.out; omega
  · omega
  intro v' w2 hown' hgrow _
  have hb2 : w2.heap[b]? = some (.cells #[.pointer (some ⟨b, 0, none⟩), v] 40 (0, 0)) := by
    rw [hgrow.block b hlt (fun e => hne e.symm)]
    exact hbk
  have d0 : w2.cell? ⟨b, 0, none⟩ = some (.pointer (some ⟨b, 0, none⟩)) := by rw [Lib.cell_of_heap hb2]; rfl
  have d1 : w2.cell? ⟨b, 1, none⟩ = some v := by rw [Lib.cell_of_heap hb2]; rfl
  have f1 : w2.frozen? ⟨b, 1, none⟩ = false := Lib.frozen_of_heap hb2 1
  obtain ⟨ao, n', cap, rfl⟩ : ∃ ao n' cap, v' = .slice ao n' cap := by
    rcases hown'.2 with ⟨hv, _⟩ | ⟨g, cap, cur, hv, _⟩
    · exact ⟨_, _, _, hv⟩
    · exact ⟨_, _, _, hv⟩
  go_wp2
  go_ret2
  refine ⟨rfl, Or.inr ?_, ?_, ?_⟩
  · rw [bv_app]
    exact Lib.BuilderAt.put (T := 40) (e := 5) hB hb2 (bs' := bv l ++ Lib.strCells s) (by simpa [Lib.strCells_length] using hown') (by decide)
  · exact (hb1.grown hgrow (by omega) (fun k hk => (hown.lt k hk).1)).setCell (p := ⟨b, 1, none⟩) hB _
  · exact hk1.trans ((Kt.grown hown hgrow).trans (Kt.set hb2 1 _))
end Lr
end Go.Proofs.YtkcncepfncdbhaaDoor

namespace Go.Proofs.YtkcncepfncdbhaaDoor
namespace Lr
open Go.RowKit
open TextMath (b64 fold)
set_option linter.unusedVariables false
set_option maxRecDepth 100000

/-- A builder at block b that holds l, made behind w0. -/
def Bd (b : Nat) (w0 wS : World) (l : List UInt8) (W : World) : Prop := IsB w0.heap.size b l W ∧ Below w0.heap.size w0 W ∧ Kt wS W
theorem isB_below {B b : Nat} {l : List UInt8} {W W' : World} (h : IsB B b l W) (hb : Below W.heap.size W W') : IsB B b l W' := by
  have key : ∀ p, Lib.BuilderAt 40 5 B b p (bv l) W → Lib.BuilderAt 40 5 B b p (bv l) W' := fun p hp => by
    obtain ⟨h1, v, h2, h3, h4⟩ := hp
    have hlt : b < W.heap.size := (Array.getElem?_eq_some_iff.1 h2).1
    exact ⟨h1, v, by rw [hb.block b hlt]; exact h2, owns_same h3 (fun g hg => hb.block g (World.ownsRow.lt h3 g hg).2), h4⟩
  rcases h with h | h
  · exact Or.inl (key _ h)
  · exact Or.inr (key _ h)
theorem Bd.below {b : Nat} {w0 wS : World} {l : List UInt8} {W W' : World} (h : Bd b w0 wS l W) (hb : Below W.heap.size W W') : Bd b w0 wS l W' := ⟨isB_below h.1 hb, h.2.1.trans (hb.mono h.2.1.size), h.2.2.trans (Kt.below hb)⟩
theorem Bd.byte {b : Nat} {w0 wS : World} {l : List UInt8} {W : World} (h : Bd b w0 wS l W) (c : UInt8) (hl : l.length ≤ 1099511627776) :
    Calls Tryd.prog 14 #[.pointer (some ⟨b, 0, none⟩), .int .u8 (c.toNat : Int)] W fun e w' => e = .returned .nilIface ∧ Bd b w0 wS (l ++ [c]) w' := by
  refine (writeByteK_any w0.heap.size b l c W h.1 hl h.2.1.size).mono ?_
  rintro e w' ⟨rfl, h1, h2, h3⟩
  exact ⟨rfl, h1, h.2.1.trans h2, h.2.2.trans h3⟩
theorem Bd.str {b : Nat} {w0 wS : World} {l : List UInt8} {W : World} (h : Bd b w0 wS l W) (s : ByteArray) (hl : l.length + s.size ≤ 1099511627776) :
    Calls Tryd.prog 12 #[.pointer (some ⟨b, 0, none⟩), .string s] W fun e w' => e = .returned (.tuple #[.int .i64 s.size, .nilIface]) ∧ Bd b w0 wS (l ++ s.data.toList) w' := by
  refine (writeStringK_any w0.heap.size b l s W h.1 hl h.2.1.size).mono ?_
  rintro e w' ⟨rfl, h1, h2, h3⟩
  exact ⟨rfl, h1, h.2.1.trans h2, h.2.2.trans h3⟩
theorem Bd.rebase {b : Nat} {w0 wS : World} {l : List UInt8} {W : World} (h : Bd b w0 wS l W) : Bd b w0 W l W := ⟨h.1, h.2.1, Kt.refl _⟩
theorem nil_toList (v : ByteArray) : (v.toList == []) = decide (v.data.toList = []) := by
  rw [Lib.toList_data]
  cases v.data.toList <;> rfl
set_option maxHeartbeats 2000000 in
theorem writeLine_any (b : Nat) (w0 wS : World) (l : List UInt8) (d v : ByteArray) (w : World) (h : Bd b w0 wS l w) (ht : AlTab w0) (hz : l.length + d.size + 2 * v.size ≤ 1073741824) :
    Calls Tryd.prog 24 #[.pointer (some ⟨b, 0, none⟩), .string d, .string v] w fun e w' => e = .returned (.tuple #[]) ∧ Bd b w0 wS (l ++ lin d.data.toList v.data.toList) w' := by
  have hz' : Hid (l.length + d.size + 2 * v.size ≤ 1073741824) := hz
  have ht' : Hid (AlTab w0) := ht
  have hdl : Hid (d.data.toList.length = d.size) := size_l d
  have hvl : Hid (v.data.toList.length = v.size) := size_l v
  have hS : Hid (Calls Tryd.prog 12 #[.pointer (some ⟨b, 0, none⟩), .string d] w fun e w' => e = .returned (.tuple #[.int .i64 d.size, .nilIface]) ∧ Bd b w0 wS (l ++ d.data.toList) w') := h.str d (by omega)
  have hv0 := nil_toList v
  clear h hz ht
  go_enter Tryd.func24, Tryd.ntmps24
  go_wp2_with fail
  refine hS.out.mono ?_
  rintro e w1 ⟨rfl, h1⟩
  have hB1 : Hid (Calls Tryd.prog 14 #[.pointer (some ⟨b, 0, none⟩), .int .u8 58] w1 fun e w' => e = .returned .nilIface ∧ Bd b w0 wS (l ++ d.data.toList ++ [58]) w') := h1.byte 58 (by rw [List.length_append, hdl.out]; have := hz'.out; omega)
  clear h1 hS
  go_wp2_with fail
  refine hB1.out.mono ?_
  rintro e w2 ⟨rfl, h2⟩
  have h2' : Hid (Bd b w0 wS (l ++ d.data.toList ++ [58]) w2) := h2
  have hl2 : Hid ((l ++ d.data.toList ++ [58]).length = l.length + d.size + 1) := by unfold Hid; rw [List.length_append, List.length_append, hdl.out]; rfl
  clear h2 hB1
  by_cases hv : v.data.toList = []
  · rw [decide_eq_true hv] at hv0
    have hB3 : Hid (Calls Tryd.prog 14 #[.pointer (some ⟨b, 0, none⟩), .int .u8 10] w2 fun e w' => e = .returned .nilIface ∧ Bd b w0 wS (l ++ d.data.toList ++ [58] ++ [10]) w') := h2'.out.byte 10 (by rw [hl2.out]; have := hz'.out; omega)
    have hfin : Hid (l ++ lin d.data.toList v.data.toList = l ++ d.data.toList ++ [58] ++ [10]) := by unfold Hid lin beh; rw [if_pos hv]; simp
    clear hv
    go_wp2_with fail
    refine hB3.out.mono ?_
    rintro e w3 ⟨rfl, h3⟩
    go_wp2_with fail
    go_end0
    exact ⟨rfl, by rw [hfin.out]; exact h3⟩
  · rw [decide_eq_false hv] at hv0
    have hP : Hid (Calls Tryd.prog 35 #[.string v] w2 fun e w' => e = .returned (.bool (plain v.data.toList)) ∧ Below w2.heap.size w2 w') := plain_any v w2 (by have := hz'.out; omega)
    cases hp : plain v.data.toList with
    | true =>
      have hfin : Hid (l ++ lin d.data.toList v.data.toList = l ++ d.data.toList ++ [58] ++ [32] ++ v.data.toList ++ [10]) := by unfold Hid lin beh; rw [if_neg hv, if_pos hp]; simp
      rw [hp] at hP
      clear hv hp
      go_wp2_with fail
      refine hP.out.mono ?_
      rintro e w3 ⟨rfl, hb3⟩
      have hB4 : Hid (Calls Tryd.prog 14 #[.pointer (some ⟨b, 0, none⟩), .int .u8 32] w3 fun e w' => e = .returned .nilIface ∧ Bd b w0 wS (l ++ d.data.toList ++ [58] ++ [32]) w') := (h2'.out.below hb3).byte 32 (by rw [hl2.out]; have := hz'.out; omega)
      clear hb3 hP
      go_wp2_with fail
      refine hB4.out.mono ?_
      rintro e w4 ⟨rfl, h4⟩
      have hS5 : Hid (Calls Tryd.prog 12 #[.pointer (some ⟨b, 0, none⟩), .string v] w4 fun e w' => e = .returned (.tuple #[.int .i64 v.size, .nilIface]) ∧ Bd b w0 wS (l ++ d.data.toList ++ [58] ++ [32] ++ v.data.toList) w') := h4.str v (by rw [List.length_append, hl2.out]; have := hz'.out; simp; omega)
      clear h4 hB4
      go_wp2_with fail
      refine hS5.out.mono ?_
      rintro e w5 ⟨rfl, h5⟩
      have hB6 : Hid (Calls Tryd.prog 14 #[.pointer (some ⟨b, 0, none⟩), .int .u8 10] w5 fun e w' => e = .returned .nilIface ∧ Bd b w0 wS (l ++ d.data.toList ++ [58] ++ [32] ++ v.data.toList ++ [10]) w') := h5.byte 10 (by rw [List.length_append, List.length_append, hl2.out, hvl.out]; have := hz'.out; simp; omega)
      clear h5 hS5
      go_wp2_with fail
      refine hB6.out.mono ?_
      rintro e w6 ⟨rfl, h6⟩
      go_wp2_with fail
      go_end0
      exact ⟨rfl, by rw [hfin.out]; exact h6⟩
    | false =>
      have hfin : Hid (l ++ lin d.data.toList v.data.toList = l ++ d.data.toList ++ [58] ++ [58] ++ [32] ++ b64 v.data.toList ++ [10]) := by unfold Hid lin beh; rw [if_neg hv, if_neg (by rw [hp]; decide)]; simp
      have hbl : Hid ((b64 v.data.toList).length ≤ 2 * v.size + 4) := by unfold Hid; rw [TextMath.b64_len, hvl.out]; omega
      rw [hp] at hP
      clear hv hp
      go_wp2_with fail
      refine hP.out.mono ?_
      rintro e w3 ⟨rfl, hb3⟩
      have hB4 : Hid (Calls Tryd.prog 14 #[.pointer (some ⟨b, 0, none⟩), .int .u8 58] w3 fun e w' => e = .returned .nilIface ∧ Bd b w0 wS (l ++ d.data.toList ++ [58] ++ [58]) w') := (h2'.out.below hb3).byte 58 (by rw [hl2.out]; have := hz'.out; omega)
      clear hb3 hP
      go_wp2_with fail
      refine hB4.out.mono ?_
      rintro e w4 ⟨rfl, h4⟩
      have h4' : Hid (Bd b w0 wS (l ++ d.data.toList ++ [58] ++ [58]) w4) := h4
      have hE : Hid (Calls Tryd.prog 36 #[.string v] w4 fun e w' => e = .returned (.string (S (b64 v.data.toList))) ∧ Below w4.heap.size w4 w') := base64_any v w4 (by have := hz'.out; omega) (ht'.out.below h4.2.1)
      clear h4 hB4
      go_wp2_with fail
      refine hE.out.mono ?_
      rintro e w5 ⟨rfl, hb5⟩
      have hB6 : Hid (Calls Tryd.prog 14 #[.pointer (some ⟨b, 0, none⟩), .int .u8 32] w5 fun e w' => e = .returned .nilIface ∧ Bd b w0 wS (l ++ d.data.toList ++ [58] ++ [58] ++ [32]) w') := (h4'.out.below hb5).byte 32 (by rw [List.length_append, hl2.out]; have := hz'.out; simp; omega)
      clear hb5 hE
      go_wp2_with fail
      refine hB6.out.mono ?_
      rintro e w6 ⟨rfl, h6⟩
      have hS7 : Hid (Calls Tryd.prog 12 #[.pointer (some ⟨b, 0, none⟩), .string (S (b64 v.data.toList))] w6 fun e w' => e = .returned (.tuple #[.int .i64 (S (b64 v.data.toList)).size, .nilIface]) ∧ Bd b w0 wS (l ++ d.data.toList ++ [58] ++ [58] ++ [32] ++ b64 v.data.toList) w') := by
        have := h6.str (S (b64 v.data.toList)) (by rw [List.length_append, List.length_append, hl2.out, S_size]; have := hz'.out; have := hbl.out; simp; omega)
        rw [S_l] at this
        exact this
      clear h6 hB6
      generalize S (b64 v.data.toList) = E at *
      go_wp2_with fail
      refine hS7.out.mono ?_
      rintro e w7 ⟨rfl, h7⟩
      have hB8 : Hid (Calls Tryd.prog 14 #[.pointer (some ⟨b, 0, none⟩), .int .u8 10] w7 fun e w' => e = .returned .nilIface ∧ Bd b w0 wS (l ++ d.data.toList ++ [58] ++ [58] ++ [32] ++ b64 v.data.toList ++ [10]) w') := h7.byte 10 (by rw [List.length_append, List.length_append, List.length_append, hl2.out]; have := hz'.out; have := hbl.out; simp; omega)
      clear h7 hS7
      go_wp2_with fail
      refine hB8.out.mono ?_
      rintro e w8 ⟨rfl, h8⟩
      go_wp2_with fail
      go_end0
      exact ⟨rfl, by rw [hfin.out]; exact h8⟩
end Lr
end Go.Proofs.YtkcncepfncdbhaaDoor

namespace Go.Proofs.YtkcncepfncdbhaaDoor
namespace Lr
open Go.RowKit
open TextMath (b64 fold)
set_option linter.unusedVariables false
set_option maxRecDepth 100000

/-- Where a record's pairs lie, their room, the pairs; a record with its line and name. -/
abbrev PX := Option Addr × Nat × List PR
abbrev RX := Int × List UInt8 × PX
def pV (p : PR) : List Value := [.string (S p.1), .string (S p.2)]
def rV (r : RX) : List Value := [.int .i64 r.1, .string (S r.2.1), .slice r.2.2.1 r.2.2.2.2.length r.2.2.2.1]
/-- What a record says. -/
def said (r : RX) : RC := (r.2.1, r.2.2.2.2)
theorem pV_len (p : PR) : (pV p).length = 2 := rfl
theorem rV_len (r : RX) : (rV r).length = 3 := rfl
abbrev PRow (w : World) (a : Option Addr) (l : List PR) : Prop := GRow 2 pV w a l
theorem prow_at {w : World} {a : Option Addr} {l : List PR} (h : PRow w a l) (i : Nat) (hi : i < l.length) : ∃ b off, a = some ⟨b, off, none⟩ ∧ w.cell? ⟨b, off + i * 2, none⟩ = some (.string (S l[i].1)) ∧ w.cell? ⟨b, off + i * 2 + 1, none⟩ = some (.string (S l[i].2)) := by
  obtain ⟨b, off, e, h1⟩ := h i hi
  exact ⟨b, off, e, h1 0 (by omega), h1 1 (by omega)⟩
/-- Records, wherever they lie, their pairs too. -/
def RRow (w : World) (a : Option Addr) (L : List RX) : Prop := GRow 3 rV w a L ∧ ∀ r ∈ L, PRow w r.2.2.1 r.2.2.2.2 ∧ r.2.2.2.2.length ≤ r.2.2.2.1 ∧ r.2.2.2.1 ≤ maxLen
theorem RRow.below {w w' : World} {a : Option Addr} {L : List RX} (h : RRow w a L) (hb : Below w.heap.size w w') : RRow w' a L := ⟨h.1.below rV_len hb, fun r hr => ⟨(h.2 r hr).1.below pV_len hb, (h.2 r hr).2⟩⟩
theorem rrow_at {w : World} {a : Option Addr} {L : List RX} (h : RRow w a L) (i : Nat) (hi : i < L.length) : ∃ b off, a = some ⟨b, off, none⟩ ∧ w.cell? ⟨b, off + i * 3, none⟩ = some (.int .i64 L[i].1) ∧ w.cell? ⟨b, off + i * 3 + 1, none⟩ = some (.string (S L[i].2.1)) ∧ w.cell? ⟨b, off + i * 3 + 2, none⟩ = some (.slice L[i].2.2.1 L[i].2.2.2.2.length L[i].2.2.2.1) := by
  obtain ⟨b, off, e, h1⟩ := h.1 i hi
  exact ⟨b, off, e, h1 0 (by omega), h1 1 (by omega), h1 2 (by omega)⟩

set_option maxHeartbeats 1000000 in
theorem wordFault_any (s : ByteArray) (first : Bool) (kv : Int) (hk : kv = if first = true then 3 else 4) (w : World) (hs : s.size ≤ 4194304) (hT : ChgTab w) :
    Calls Tryd.prog 23 #[.string s, .int .i64 kv] w fun e w' => e = .returned (.int .i64 (pf first s.data.toList : Nat)) ∧ Below w.heap.size w w' := by
  obtain ⟨f, hf⟩ : ∃ f, S (fold s.data.toList) = f := ⟨_, rfl⟩
  have hfl : f.data.toList = fold s.data.toList := by rw [← hf, S_l]
  have hF : Hid (Calls Tryd.prog 32 #[.string s] w fun e w' => e = .returned (.string f) ∧ Below w.heap.size w w') := by
    have := fold_any s w (by unfold maxLen; omega)
    rw [hf] at this
    exact this
  have hC : Hid (∀ W, Below w.heap.size w W → Calls Tryd.prog 33 #[.string f] W fun e w' => e = .returned (.bool (chg s.data.toList)) ∧ W = w') := fun W hW => by
    have := tells_any f W (hT.below hW)
    rw [hfl] at this
    exact this
  have hP : Hid (∀ W, Calls Tryd.prog 34 #[.string s] W fun e w' => (∃ t a n c q, e = .returned (.tuple #[.agg #[.string t, .slice a n c], .int .i64 (if dacc (drun 0 (fold s.data.toList)) = true then 0 else 40), .int .i64 q])) ∧ Below W.heap.size W w') := fun W => parseE_any s W hs
  have hdn : (f.toList == [100, 110]) = (fold s.data.toList == dnB) := by rw [Lib.toList_data, hfl]; rfl
  have hok : Hid (okD s.data.toList = (dacc (drun 0 (fold s.data.toList)) && !(fold s.data.toList == dnB))) := rfl
  generalize dacc (drun 0 (fold s.data.toList)) = x at *
  generalize (fold s.data.toList == dnB) = y at *
  unfold pf
  cases first with
  | true =>
    rw [if_pos rfl] at hk
    subst hk
    cases hc : chg s.data.toList with
    | true =>
      rw [hc] at hC
      clear hc hf hfl hs hT hdn
      go_enter Tryd.func23, Tryd.ntmps23
      go_wp2_with (first
        | (go_at_call 32; refine hF.out.mono ?_; rintro e w1 ⟨rfl, hb1⟩; have H1 : Hid (Below w.heap.size w w1) := hb1; clear hb1)
        | (go_at_call 33; refine (hC.out w1 H1.out).mono ?_; rintro e w2 ⟨rfl, rfl⟩))
      go_ret
      exact ⟨rfl, H1.out⟩
    | false =>
      rw [hc] at hC
      clear hc hf hfl hs hT
      rw [hok.out]
      clear hok
      cases x <;> cases y
      all_goals
        go_enter Tryd.func23, Tryd.ntmps23
        go_wp2_with (first
          | (go_at_call 32; refine hF.out.mono ?_; rintro e w1 ⟨rfl, hb1⟩; have H1 : Hid (Below w.heap.size w w1) := hb1; clear hb1)
          | (go_at_call 33; refine (hC.out w1 H1.out).mono ?_; rintro e w2 ⟨rfl, rfl⟩)
          | (go_at_call 34; refine (hP.out _).mono ?_; rintro e w3 ⟨⟨t, a, n, c, q, rfl⟩, hb3⟩; have H3 : Hid (Below w.heap.size w w3) := H1.out.trans (hb3.mono H1.out.size); clear hb3))
        go_ret
        exact ⟨rfl, H3.out.alloc H3.out.size _⟩
  | false =>
    rw [if_neg (by decide)] at hk
    subst hk
    clear hf hfl hs hT hC
    rw [hok.out]
    clear hok
    cases x <;> cases y
    all_goals
      go_enter Tryd.func23, Tryd.ntmps23
      go_wp2_with (first
        | (go_at_call 32; refine hF.out.mono ?_; rintro e w1 ⟨rfl, hb1⟩; have H1 : Hid (Below w.heap.size w w1) := hb1; clear hb1)
        | (go_at_call 34; refine (hP.out _).mono ?_; rintro e w3 ⟨⟨t, a, n, c, q, rfl⟩, hb3⟩; have H3 : Hid (Below w.heap.size w w3) := H1.out.trans (hb3.mono H1.out.size); clear hb3))
      go_ret
      exact ⟨rfl, H3.out.alloc H3.out.size _⟩
end Lr
end Go.Proofs.YtkcncepfncdbhaaDoor

namespace Go.Proofs.YtkcncepfncdbhaaDoor
namespace Lr
open Go.RowKit
open TextMath (b64 fold)
set_option linter.unusedVariables false
set_option maxRecDepth 100000

set_option maxHeartbeats 2000000 in
theorem recordFault_any (ln : Int) (nm : List UInt8) (pa : Option Addr) (pc : Nat) (ps : List PR) (w : World) (hr : PRow w pa ps) (hz : wRc (nm, ps) ≤ 1048576) (hT : ChgTab w) :
    Calls Tryd.prog 13 #[.agg #[.int .i64 ln, .string (S nm), .slice pa ps.length pc]] w fun e w' => e = .returned (.int .i64 (rf (nm, ps) : Nat)) ∧ Below w.heap.size w w' := by
  have hpl := wp_len (nm, ps)
  have hws : Hid (∀ i (hi : i < ps.length), ps[i].1.length ≤ 1048576) := fun i hi => by
    have := wp_le (nm, ps) ps[i] (List.getElem_mem hi)
    unfold wp at this
    omega
  have nb : (ps.length : Int) ≤ 1048576 := by simp only at hpl; omega
  have hr' : Hid (PRow w pa ps) := hr
  have hT' : Hid (ChgTab w) := hT
  obtain ⟨N, hN⟩ : ∃ N, S nm = N := ⟨_, rfl⟩
  rw [hN]
  by_cases h0 : ps = []
  · subst h0
    have hres : Hid (rf (nm, []) = 79) := by unfold Hid rf; rw [if_pos rfl]
    clear hr hz hT hpl hN
    go_enter Tryd.func13, Tryd.ntmps13
    go_wp2_with fail
    go_ret
    exact ⟨by rw [hres.out]; rfl, (Below.refl _ _).alloc (Nat.le_refl _) _⟩
  · obtain ⟨n, hn⟩ : ∃ n, ps.length = n := ⟨_, rfl⟩
    have hrf : Hid (rf (nm, ps) = pfs true ps) := by unfold Hid rf; rw [if_neg h0]
    have hn' : Hid (ps.length = n) := hn
    have hn0 : ((n : Int) == 0) = false := by
      have : n ≠ 0 := fun e => h0 (List.eq_nil_of_length_eq_zero (by omega))
      simp; omega
    rw [hn] at nb ⊢
    clear hr hz hT hpl hN h0 hn
    go_enter Tryd.func13, Tryd.ntmps13
    go_wp2_with fail
    go_loopw [3, 14] (fun kv iv wr => ∃ i : Nat, iv = .int .i64 (i : Int) ∧ i ≤ n ∧ kv = .int .i64 (if decide (i = 0) = true then 3 else 4) ∧ Hid (∀ j (h : j < ps.length), j < i → pf (true && decide (j = 0)) ps[j].1 = 0) ∧ Hid (Below w.heap.size w wr)) (fun _ iv _ => n - (intOf iv).toNat)
    case atStart => exact ⟨0, rfl, Nat.zero_le _, rfl, fun j _ h => by omega, (Below.refl _ _).alloc (Nat.le_refl _) _⟩
    case round =>
      obtain ⟨i, rfl, hi, rfl, hall, hB⟩ := hrel
      have i0 : (0 : Int) ≤ (i : Int) := Int.natCast_nonneg _
      by_cases hlt : i < n
      · have i1 : (i : Int) < (n : Int) := Int.ofNat_lt.2 hlt
        have hiP : i < ps.length := by rw [hn'.out]; exact hlt
        obtain ⟨pb, po, rfl, c1, c2⟩ := prow_at (hr'.out.below pV_len hB.out) i hiP
        obtain ⟨kv, hkv⟩ : ∃ kv : Int, (if decide (i = 0) = true then 3 else 4) = kv := ⟨_, rfl⟩
        rw [hkv]
        obtain ⟨d, hd⟩ : ∃ d, S ps[i].1 = d := ⟨_, rfl⟩
        obtain ⟨v, hv⟩ : ∃ v, S ps[i].2 = v := ⟨_, rfl⟩
        rw [hd] at c1
        rw [hv] at c2
        have hW : Hid (∀ W, Below w.heap.size w W → Calls Tryd.prog 23 #[.string d, .int .i64 kv] W fun e w' => e = .returned (.int .i64 (pf (true && decide (i = 0)) ps[i].1 : Nat)) ∧ Below W.heap.size W w') := fun W hW => by
          have := wordFault_any d (true && decide (i = 0)) kv (by rw [Bool.true_and]; exact hkv.symm) W (by rw [← hd, S_size]; have := hws.out i hiP; omega) (hT'.out.below hW)
          rw [← hd, S_l] at this
          rw [← hd]
          exact this
        have hlt' : Hid (i < n) := hlt
        have hB1 : Hid (Below w.heap.size w (wr.alloc (.cells #[.string d, .string v] 37))) := hB.out.alloc hB.out.size _
        have hnext : Hid (pf (true && decide (i = 0)) ps[i].1 = 0 → ∀ j (h : j < ps.length), j < i + 1 → pf (true && decide (j = 0)) ps[j].1 = 0) := fun e j h hj => by
          by_cases e2 : j = i
          · subst e2; exact e
          · exact hall.out j h (by omega)
        have hbad : Hid (pf (true && decide (i = 0)) ps[i].1 ≠ 0 → rf (nm, ps) = pf (true && decide (i = 0)) ps[i].1) := fun e => by
          rw [hrf.out]
          exact pfs_at ps true i hiP (fun j h hj => hall.out j h hj) e
        have hfb : (pf (true && decide (i = 0)) ps[i].1 : Int) ≤ 78 := by unfold pf; split; decide; split <;> decide
        generalize pf (true && decide (i = 0)) ps[i].1 = F at *
        clear hd hv hkv hall hi hlt hiP
        by_cases hF : F = 0
        · subst hF
          have hnx : Hid (∀ j (h : j < ps.length), j < i + 1 → pf (true && decide (j = 0)) ps[j].1 = 0) := hnext.out rfl
          have hks : Hid ((if decide (i + 1 = 0) = true then (3 : Int) else 4) = 4) := by unfold Hid; rw [if_neg (by simp)]
          clear hnext hbad
          go_wp2_with (go_at_call 23; refine (hW.out _ hB1.out).mono ?_; rintro e w2 ⟨rfl, hb2⟩; have H2 : Hid (Below w.heap.size w w2) := hB1.out.trans (hb2.mono hB1.out.size); clear hb2)
          go_roundw
          case rel => exact ⟨i + 1, by simp, hlt'.out, by rw [hks.out], hnx, H2⟩
          case measure => have := hlt'.out; simp [intOf]; omega
        · have hres := hbad.out hF
          have hres' : Hid (rf (nm, ps) = F) := hres
          have hFb : ((F : Int) != 0) = true := by simp; omega
          clear hnext hbad hres hF
          go_wp2_with (go_at_call 23; refine (hW.out _ hB1.out).mono ?_; rintro e w2 ⟨rfl, hb2⟩; have H2 : Hid (Below w.heap.size w w2) := hB1.out.trans (hb2.mono hB1.out.size); clear hb2)
          go_ret
          exact ⟨by rw [hres'.out]; rfl, H2.out⟩
      · have e : n = i := by omega
        subst e
        have i1 : ¬ (n : Int) < (n : Int) := by omega
        have hres : Hid (rf (nm, ps) = 0) := by
          unfold Hid
          rw [hrf.out]
          exact pfs_all ps true (fun j h => hall.out j h (by have := hn'.out; omega))
        clear hall hi hlt
        obtain ⟨kv, hkv⟩ : ∃ kv : Int, (if decide (n = 0) = true then 3 else 4) = kv := ⟨_, rfl⟩
        rw [hkv]
        clear hkv
        go_wp2_with fail
        go_ret
        exact ⟨by rw [hres.out]; rfl, hB.out⟩
theorem kt_box {w w' : World} {k : Nat} {cs : Array Value} {t : TypeId} {fz : Nat × Nat} (h : Kt w w') (hb : w.heap[k]? = some (.cells cs t fz)) (h1 : t ≠ 40) (h2 : t ≠ 5) : w'.heap[k]? = some (.cells cs t fz) :=
  h k _ hb (fun _ _ e => by injection e with _ e _; exact h1 e) (fun _ _ e => by injection e with _ e _; exact h2 e)
set_option maxHeartbeats 2000000 in
theorem writeRecord_any (b : Nat) (w0 wS : World) (l : List UInt8) (ln : Int) (nm : List UInt8) (pa : Option Addr) (pc : Nat) (ps : List PR) (w : World) (h : Bd b w0 wS l w) (ht : AlTab w0) (hr : PRow w0 pa ps) (hz : wRc (nm, ps) ≤ 1048576) (hl : l.length ≤ 8388608) :
    Calls Tryd.prog 15 #[.pointer (some ⟨b, 0, none⟩), .agg #[.int .i64 ln, .string (S nm), .slice pa ps.length pc]] w fun e w' => e = .returned (.tuple #[]) ∧ Bd b w0 wS (l ++ rec1 (nm, ps)) w' := by
  have hpl := wp_len (nm, ps)
  have hwn : nm.length ≤ 1048576 := by unfold wRc at hz; simp only at hz; omega
  have hws : Hid (∀ i (hi : i < ps.length), ps[i].1.length + ps[i].2.length ≤ 1048576) := fun i hi => by
    have := wp_le (nm, ps) ps[i] (List.getElem_mem hi)
    unfold wp at this
    unfold wRc at this hz
    simp only at this hz
    omega
  have nb : (ps.length : Int) ≤ 1048576 := by simp only at hpl; omega
  have hlen : Hid (∀ i, (l ++ lin dnB nm ++ ((ps.take i).flatMap fun p => lin p.1 p.2)).length ≤ 33554432) := fun i => by
    have h1 := lin_len dnB nm
    have h2 := lins_len (ps.take i)
    have h3 : ((ps.take i).map wp).sum ≤ (ps.map wp).sum := by
      have e : (ps.map wp).sum = ((ps.take i).map wp).sum + ((ps.drop i).map wp).sum := by rw [← List.sum_append, ← List.map_append, List.take_append_drop]
      omega
    have h4 : (ps.map wp).sum ≤ 1048576 := by unfold wRc at hz; simp only at hz; omega
    have h5 : dnB.length = 2 := rfl
    rw [List.length_append, List.length_append]
    omega
  obtain ⟨W0, hW0⟩ : ∃ W0, w.alloc (.cells #[.int .i64 ln, .string (S nm), .slice pa ps.length pc] 33) = W0 := ⟨_, rfl⟩
  have hB0 : Bd b w0 wS l W0 := by rw [← hW0]; exact h.below ((Below.refl _ _).alloc (Nat.le_refl _) _)
  have hx0 : W0.heap[w.heap.size]? = some (.cells #[.int .i64 ln, .string (S nm), .slice pa ps.length pc] 33 (0, 0)) := by rw [← hW0]; exact heap_alloc_new _ _
  have hL1 : Hid (Calls Tryd.prog 24 #[.pointer (some ⟨b, 0, none⟩), .string { data := #[100, 110] }, .string (S nm)] W0 fun e w' => e = .returned (.tuple #[]) ∧ Bd b w0 W0 (l ++ lin dnB nm) w') := by
    have := writeLine_any b w0 W0 l { data := #[100, 110] } (S nm) W0 hB0.rebase ht (by rw [S_size]; show l.length + 2 + 2 * nm.length ≤ 1073741824; omega)
    rw [S_l] at this
    exact this
  have c1 : W0.cell? ⟨w.heap.size, 1, none⟩ = some (.string (S nm)) := by rw [cell_of_row _ _ _ _ _ _ hx0]; rfl
  have hkS : Hid (Kt wS W0) := hB0.2.2
  obtain ⟨n, hn⟩ : ∃ n, ps.length = n := ⟨_, rfl⟩
  have hn' : Hid (ps.length = n) := hn
  have hr' : Hid (PRow w0 pa ps) := hr
  have ht' : Hid (AlTab w0) := ht
  obtain ⟨N, hN⟩ : ∃ N, S nm = N := ⟨_, rfl⟩
  rw [hN] at hL1 hx0 c1 hW0 ⊢
  rw [hn] at nb hx0 hW0 ⊢
  have hx0' : Hid (W0.heap[w.heap.size]? = some (.cells #[.int .i64 ln, .string N, .slice pa n pc] 33 (0, 0))) := hx0
  clear h ht hr hz hl hpl hwn hn hN hB0 hx0
  go_enter Tryd.func15, Tryd.ntmps15
  go_wp2_with fail
  refine hL1.out.mono ?_
  rintro e w1 ⟨rfl, h1⟩
  have h1' : Hid (Bd b w0 W0 (l ++ lin dnB nm) w1) := h1
  have hx1 := kt_box h1.2.2 hx0'.out (by decide) (by decide)
  have c2 : w1.cell? ⟨w.heap.size, 2, none⟩ = some (.slice pa n pc) := by rw [cell_of_row _ _ _ _ _ _ hx1]; rfl
  clear h1 hL1 hx1 c1 hW0
  go_wp2_with fail
  go_loopw [13] (fun iv wr => ∃ i : Nat, iv = .int .i64 (i : Int) ∧ i ≤ n ∧ Hid (Bd b w0 W0 (l ++ lin dnB nm ++ ((ps.take i).flatMap fun p => lin p.1 p.2)) wr)) (fun iv _ => n - (intOf iv).toNat)
  case atStart => exact ⟨0, rfl, Nat.zero_le _, by unfold Hid; simpa using h1'.out⟩
  case round =>
    obtain ⟨i, rfl, hi, hB⟩ := hrel
    have i0 : (0 : Int) ≤ (i : Int) := Int.natCast_nonneg _
    by_cases hlt : i < n
    · have i1 : (i : Int) < (n : Int) := Int.ofNat_lt.2 hlt
      have hiP : i < ps.length := by rw [hn'.out]; exact hlt
      obtain ⟨pb, po, rfl, c3, c4⟩ := prow_at (hr'.out.below pV_len hB.out.2.1) i hiP
      obtain ⟨d, hd⟩ : ∃ d, S ps[i].1 = d := ⟨_, rfl⟩
      obtain ⟨v, hv⟩ : ∃ v, S ps[i].2 = v := ⟨_, rfl⟩
      rw [hd] at c3
      rw [hv] at c4
      have hW : Hid (Calls Tryd.prog 24 #[.pointer (some ⟨b, 0, none⟩), .string d, .string v] (wr.alloc (.cells #[.string d, .string v] 37)) fun e w' => e = .returned (.tuple #[]) ∧ Bd b w0 W0 (l ++ lin dnB nm ++ ((ps.take (i + 1)).flatMap fun p => lin p.1 p.2)) w') := by
        have := writeLine_any b w0 W0 _ d v (wr.alloc (.cells #[.string d, .string v] 37)) (hB.out.below ((Below.refl _ _).alloc (Nat.le_refl _) _)) ht'.out (by have h1 := hlen.out i; have h2 := hws.out i hiP; rw [← hd, ← hv, S_size, S_size]; omega)
        rw [lins_snoc ps i hiP, ← List.append_assoc]
        rw [← hd, ← hv, S_l, S_l] at this
        rw [← hd, ← hv]
        exact this
      have hlt' : Hid (i < n) := hlt
      clear hd hv hi hlt hiP hB
      go_wp2_with (go_at_call 24; refine hW.out.mono ?_; rintro e w2 ⟨rfl, h2⟩; have h2' : Hid (Bd b w0 W0 (l ++ lin dnB nm ++ ((ps.take (i + 1)).flatMap fun p => lin p.1 p.2)) w2) := h2; clear h2)
      go_roundw
      case rel => exact ⟨i + 1, by simp, hlt'.out, h2'⟩
      case measure => have := hlt'.out; simp [intOf]; omega
    · have e : n = i := by omega
      subst e
      have i1 : ¬ (n : Int) < (n : Int) := by omega
      have hfin : Hid (Bd b w0 wS (l ++ rec1 (nm, ps)) wr) := by
        have h2 := hB.out
        rw [List.take_of_length_le (by rw [hn'.out]; exact Nat.le_refl _), List.append_assoc] at h2
        exact ⟨h2.1, h2.2.1, hkS.out.trans h2.2.2⟩
      clear hi hlt hB
      go_wp2_with fail
      go_end0
      exact ⟨rfl, hfin.out⟩
end Lr
end Go.Proofs.YtkcncepfncdbhaaDoor

namespace Go.Proofs.YtkcncepfncdbhaaDoor
namespace Lr
open Go.RowKit
open TextMath (b64 fold)
set_option linter.unusedVariables false
set_option maxRecDepth 100000

/-- What Render answers. -/
def renV (L : List RC) : Value := if L = [] then .tuple #[.string ⟨#[]⟩, .int .i64 73, .int .i64 0] else match ffs 0 L with
  | some (e, i) => .tuple #[.string ⟨#[]⟩, .int .i64 (e : Int), .int .i64 (i : Int)]
  | none => .tuple #[.string (S (ren L)), .int .i64 0, .int .i64 0]
theorem renV_nil : renV [] = .tuple #[.string ⟨#[]⟩, .int .i64 73, .int .i64 0] := rfl
theorem renV_bad (L : List RC) (i : Nat) (hi : i < L.length) (h : ∀ j (hj : j < L.length), j < i → rf L[j] = 0) (hn : rf L[i] ≠ 0) : renV L = .tuple #[.string ⟨#[]⟩, .int .i64 (rf L[i] : Int), .int .i64 (i : Int)] := by
  unfold renV
  rw [if_neg (by intro e; subst e; simp at hi), ffs_at L 0 i hi h hn, Nat.zero_add]
theorem renV_ok (L : List RC) (h0 : L ≠ []) (h : ∀ j (hj : j < L.length), rf L[j] = 0) : renV L = .tuple #[.string (S (ren L)), .int .i64 0, .int .i64 0] := by
  unfold renV
  rw [if_neg h0, ffs_all L 0 h]
theorem Bd.norm {b : Nat} {w0 wS : World} {l : List UInt8} {W : World} (h : Bd b w0 wS l W) : Bd b w0 w0 l W := ⟨h.1, h.2.1, Kt.below h.2.1⟩

set_option maxHeartbeats 2000000 in
theorem render_any (a : Option Addr) (c : Nat) (L : List RX) (w : World) (hr : RRow w a L) (ht : AlTab w) (hT : ChgTab w) (hz : wt (L.map said) ≤ 1048576) :
    Calls Tryd.prog 6 #[.slice a L.length c] w fun e w' => e = .returned (renV (L.map said)) ∧ Below w.heap.size w w' := by
  have hlen := wt_len (L.map said)
  rw [List.length_map] at hlen
  have nb : (L.length : Int) ≤ 1048576 := by omega
  obtain ⟨D, hD⟩ : ∃ D, L.map said = D := ⟨_, rfl⟩
  have hDl : Hid (D.length = L.length) := by unfold Hid; rw [← hD, List.length_map]
  have hDi : Hid (∀ i (hi : i < L.length) (hi' : i < D.length), D[i] = said L[i]) := fun i hi hi' => by subst hD; simp
  rw [hD] at hz ⊢
  by_cases h0 : L = []
  · subst h0
    have hD0 : D = [] := by rw [← hD]; rfl
    subst hD0
    clear hr ht hT hz hlen hD
    go_enter Tryd.func6, Tryd.ntmps6
    go_wp2_with fail
    go_ret3
    exact ⟨rfl, Below.refl _ _⟩
  · obtain ⟨n, hn⟩ : ∃ n, L.length = n := ⟨_, rfl⟩
    have hn0 : ((n : Int) == 0) = false := by
      have : n ≠ 0 := fun e => h0 (List.eq_nil_of_length_eq_zero (by omega))
      simp; omega
    have hne : Hid (D ≠ []) := fun e => h0 (List.eq_nil_of_length_eq_zero (by rw [← hDl.out, e]; rfl))
    have hn' : Hid (L.length = n) := hn
    have hr' : Hid (RRow w a L) := hr
    have ht' : Hid (AlTab w) := ht
    have hT' : Hid (ChgTab w) := hT
    have hz' : Hid (wt D ≤ 1048576) := hz
    have hll : Hid (∀ i, (ren (D.take i)).length ≤ 3145739) := fun i => by
      have h1 := ren_len (D.take i)
      have h2 := wt_take D i
      omega
    obtain ⟨W0, hW0⟩ : ∃ W0, w.alloc (.cells #[.pointer none, .slice none 0 0] 40) = W0 := ⟨_, rfl⟩
    have hB0 : Bd w.heap.size w w [] W0 := by
      have hb : Below w.heap.size w W0 := by rw [← hW0]; exact (Below.refl _ _).alloc (Nat.le_refl _) _
      refine ⟨?_, hb, Kt.below hb⟩
      have h := Lib.fresh_isBuilder 40 5 w
      rw [hW0] at h
      exact h
    have hS1 : Hid (Calls Tryd.prog 12 #[.pointer (some ⟨w.heap.size, 0, none⟩), .string { data := #[118, 101, 114, 115, 105, 111, 110, 58, 32, 49, 10] }] W0 fun e w' => e = .returned (.tuple #[.int .i64 11, .nilIface]) ∧ Bd w.heap.size w w verB w') := hB0.str { data := #[118, 101, 114, 115, 105, 111, 110, 58, 32, 49, 10] } (by decide)
    rw [hn] at nb ⊢
    clear hr ht hT hz hlen hD h0 hn hB0
    go_enter Tryd.func6, Tryd.ntmps6
    go_wp2_with fail
    refine hS1.out.mono ?_
    rintro e w1 ⟨rfl, h1⟩
    have h1' : Hid (Bd w.heap.size w w verB w1) := h1
    clear h1 hS1 hW0
    go_wp2_with fail
    go_loopw [15] (fun iv wr => ∃ i : Nat, iv = .int .i64 (i : Int) ∧ i ≤ n ∧ Hid (∀ j (h : j < D.length), j < i → rf D[j] = 0) ∧ Hid (Bd w.heap.size w w (ren (D.take i)) wr)) (fun iv _ => n - (intOf iv).toNat)
    case atStart => exact ⟨0, rfl, Nat.zero_le _, fun j _ h => by omega, by unfold Hid ren; simpa using h1'.out⟩
    case round =>
      obtain ⟨i, rfl, hi, hall, hB⟩ := hrel
      clear h1'
      have i0 : (0 : Int) ≤ (i : Int) := Int.natCast_nonneg _
      by_cases hlt : i < n
      · have i1 : (i : Int) < (n : Int) := Int.ofNat_lt.2 hlt
        have hiL : i < L.length := by rw [hn'.out]; exact hlt
        have hiD : i < D.length := by rw [hDl.out]; exact hiL
        have hRw := hr'.out.below hB.out.2.1
        obtain ⟨rb, ro, rfl, c1, c2, c3⟩ := rrow_at hRw i hiL
        have hpr := (hr'.out.2 _ (List.getElem_mem hiL)).1
        have hdi := hDi.out i hiL hiD
        have hwi : wRc D[i] ≤ 1048576 := Nat.le_trans (wr_le D D[i] (List.getElem_mem hiD)) hz'.out
        have hsn := ren_snoc D i hiD
        have hbad : Hid (rf D[i] ≠ 0 → renV D = .tuple #[.string ⟨#[]⟩, .int .i64 (rf D[i] : Int), .int .i64 (i : Int)]) := fun e => renV_bad D i hiD hall.out e
        have hnext : Hid (rf D[i] = 0 → ∀ j (h : j < D.length), j < i + 1 → rf D[j] = 0) := fun e j h hj => by
          by_cases e2 : j = i
          · subst e2; exact e
          · exact hall.out j h (by omega)
        rw [hdi] at hwi hsn hbad hnext
        generalize L[i] = r at *
        obtain ⟨ln, nm, pa, pc, ps⟩ := r
        dsimp only [said] at hwi hsn hbad hnext hpr c1 c2 c3
        obtain ⟨N, hN⟩ : ∃ N, S nm = N := ⟨_, rfl⟩
        obtain ⟨m, hm⟩ : ∃ m, ps.length = m := ⟨_, rfl⟩
        obtain ⟨W2, hW2⟩ : ∃ W2, wr.alloc (.cells #[.int .i64 ln, .string N, .slice pa m pc] 33) = W2 := ⟨_, rfl⟩
        have hx2 : W2.heap[wr.heap.size]? = some (.cells #[.int .i64 ln, .string N, .slice pa m pc] 33 (0, 0)) := by rw [← hW2]; exact heap_alloc_new _ _
        have hb2 : Below wr.heap.size wr W2 := by rw [← hW2]; exact (Below.refl _ _).alloc (Nat.le_refl _) _
        have hB2 : Hid (Bd w.heap.size w W2 (ren (D.take i)) W2) := (hB.out.below hb2).rebase
        have hF : Hid (Calls Tryd.prog 13 #[.agg #[.int .i64 ln, .string N, .slice pa m pc]] W2 fun e w' => e = .returned (.int .i64 (rf (nm, ps) : Nat)) ∧ Below W2.heap.size W2 w') := by
          have := recordFault_any ln nm pa pc ps W2 (hpr.below pV_len hB2.out.2.1) hwi (hT'.out.below hB2.out.2.1)
          rw [hN, hm] at this
          exact this
        have hWr : Hid (∀ W l, Bd w.heap.size w W2 l W → l.length ≤ 8388608 → Calls Tryd.prog 15 #[.pointer (some ⟨w.heap.size, 0, none⟩), .agg #[.int .i64 ln, .string N, .slice pa m pc]] W fun e w' => e = .returned (.tuple #[]) ∧ Bd w.heap.size w W2 (l ++ rec1 (nm, ps)) w') := fun W l hW hl => by
          have := writeRecord_any w.heap.size w W2 l ln nm pa pc ps W hW ht'.out hpr hwi hl
          rw [hN, hm] at this
          exact this
        rw [hN] at c2
        rw [hm] at c3
        have d0 : W2.cell? ⟨wr.heap.size, 0, none⟩ = some (.int .i64 ln) := by rw [cell_of_row _ _ _ _ _ _ hx2]; rfl
        have d1 : W2.cell? ⟨wr.heap.size, 1, none⟩ = some (.string N) := by rw [cell_of_row _ _ _ _ _ _ hx2]; rfl
        have d2 : W2.cell? ⟨wr.heap.size, 2, none⟩ = some (.slice pa m pc) := by rw [cell_of_row _ _ _ _ _ _ hx2]; rfl
        have hx2' : Hid (W2.heap[wr.heap.size]? = some (.cells #[.int .i64 ln, .string N, .slice pa m pc] 33 (0, 0))) := hx2
        have hsn' : Hid (ren (D.take (i + 1)) = ren (D.take i) ++ 10 :: rec1 (nm, ps)) := hsn
        have hlt' : Hid (i < n) := hlt
        have hfb : (rf (nm, ps) : Int) ≤ 79 := by
          unfold rf
          split
          · decide
          · have : ∀ (l : List PR) (b : Bool), pfs b l ≤ 79 := by
              intro l
              induction l with
              | nil => intro b; unfold pfs; omega
              | cons p t ih =>
                intro b
                unfold pfs
                split
                · exact ih false
                · unfold pf; split; omega; split <;> omega
            have := this ps true
            simp only
            omega
        clear hN hm hx2 hb2 hpr hdi hwi hsn hRw hall hi hlt hiL hiD hB
        generalize rf (nm, ps) = F at *
        by_cases hF0 : F = 0
        · subst hF0
          have hnx := hnext.out rfl
          have hnx' : Hid (∀ j (h : j < D.length), j < i + 1 → rf D[j] = 0) := hnx
          clear hnext hbad hnx
          go_wp2_with fail
          refine hF.out.mono ?_
          rintro e w3 ⟨rfl, hb3⟩
          have hB4 : Hid (Calls Tryd.prog 14 #[.pointer (some ⟨w.heap.size, 0, none⟩), .int .u8 10] w3 fun e w' => e = .returned .nilIface ∧ Bd w.heap.size w W2 (ren (D.take i) ++ [10]) w') := (hB2.out.below hb3).byte 10 (by have := hll.out i; omega)
          clear hb3 hF d0 d1 d2 hW2
          go_wp2_with fail
          refine hB4.out.mono ?_
          rintro e w4 ⟨rfl, h4⟩
          have hx4 := kt_box h4.2.2 hx2'.out (by decide) (by decide)
          have e0 : w4.cell? ⟨wr.heap.size, 0, none⟩ = some (.int .i64 ln) := by rw [cell_of_row _ _ _ _ _ _ hx4]; rfl
          have e1 : w4.cell? ⟨wr.heap.size, 1, none⟩ = some (.string N) := by rw [cell_of_row _ _ _ _ _ _ hx4]; rfl
          have e2 : w4.cell? ⟨wr.heap.size, 2, none⟩ = some (.slice pa m pc) := by rw [cell_of_row _ _ _ _ _ _ hx4]; rfl
          have hR5 : Hid (Calls Tryd.prog 15 #[.pointer (some ⟨w.heap.size, 0, none⟩), .agg #[.int .i64 ln, .string N, .slice pa m pc]] w4 fun e w' => e = .returned (.tuple #[]) ∧ Bd w.heap.size w W2 (ren (D.take i) ++ [10] ++ rec1 (nm, ps)) w') := hWr.out w4 _ h4 (by rw [List.length_append]; have := hll.out i; simp; omega)
          clear hx4 h4 hB4
          go_wp2_with fail
          refine hR5.out.mono ?_
          rintro e w5 ⟨rfl, h5⟩
          have h5' : Hid (Bd w.heap.size w w (ren (D.take (i + 1))) w5) := by
            unfold Hid
            rw [hsn'.out]
            have := h5.norm
            rw [List.append_assoc] at this
            exact this
          clear h5 hR5 e0 e1 e2
          go_wp2_with fail
          go_roundw
          case rel => exact ⟨i + 1, by simp, hlt'.out, hnx', h5'⟩
          case measure => have := hlt'.out; simp [intOf]; omega
        · have hres := hbad.out hF0
          have hres' : Hid (renV D = .tuple #[.string ⟨#[]⟩, .int .i64 (F : Int), .int .i64 (i : Int)]) := hres
          have hFb : ((F : Int) != 0) = true := by simp; omega
          have hBw : Hid (Below w.heap.size w W2) := hB2.out.2.1
          clear hnext hbad hres hF0
          go_wp2_with fail
          refine hF.out.mono ?_
          rintro e w3 ⟨rfl, hb3⟩
          have H3 : Hid (Below w.heap.size w w3) := hBw.out.trans (hb3.mono hBw.out.size)
          clear hb3 hF d0 d1 d2 hW2
          go_wp2_with fail
          go_ret3
          exact ⟨by rw [hres'.out]; rfl, H3.out⟩
      · have e : n = i := by omega
        subst e
        have i1 : ¬ (n : Int) < (n : Int) := by omega
        have hres : Hid (renV D = .tuple #[.string (S (ren D)), .int .i64 0, .int .i64 0]) := renV_ok D hne.out (fun j hj => hall.out j hj (by have := hDl.out; have := hn'.out; omega))
        have hst : Hid (Calls Tryd.prog 16 #[.pointer (some ⟨w.heap.size, 0, none⟩)] wr fun e w' => e = .returned (.string (S (ren D))) ∧ Below w.heap.size wr w') := by
          have := bString_any _ _ _ wr hB.out.1 hB.out.2.1.size
          rw [List.take_of_length_le (by rw [hDl.out, hn'.out]; exact Nat.le_refl _)] at this
          exact this
        have hBw : Hid (Below w.heap.size w wr) := hB.out.2.1
        clear hall hi hlt hB
        go_wp2_with fail
        refine hst.out.mono ?_
        rintro e w2 ⟨rfl, hb2⟩
        have H2 : Hid (Below w.heap.size w w2) := hBw.out.trans hb2
        clear hb2 hst
        go_wp2_with fail
        go_ret3
        exact ⟨by rw [hres.out]; rfl, H2.out⟩
end Lr
end Go.Proofs.YtkcncepfncdbhaaDoor
