import Derived.Test.YtkknenmpdimdbaaGreatDoorFW21
import Derived.Test.YtkknenmpdimdbaaGreatDoorFW12
import Derived.Lib.AppendStr
namespace Go.Proofs.YtkknenmpdimdbaaGreatDoor
namespace Pa
open Go.RowKit
open TextMath (fold lo normal check wo unhex)
open Du (GOwn GRow Kd append_gen)
open Bl (bV bV_len bV_flat KDb g_new)
open Ke (refV)
set_option linter.unusedVariables false
set_option linter.unusedSimpArgs false
set_option maxRecDepth 100000
theorem step_run {P : Program} (w : World) {ops : Array Oper} {o : Oper} {a : Act} {K : Act → World → Prop} {Q : Exit → Act → World → Prop} {E : Prop} (hgd : o.guard = none) (s x : Operand) (t tn : TypeId)
  (ho : o.op = .call { callee := .builtin .append, args := #[s, x], argTypes := #[t, tn] }) (vs vx : Value) (hs : a.eval s = vs) (hx : a.eval x = vx)
  (v' : Value) (w' : World) (hr : (Builtin.append_ #[t, tn] o.type #[vs, vx]).run P w = .ok v' w') (h : K (a.put o.dst v') w') : if Region.wanted o (yielded ops a.tmps) = true then Oper.wp P o a w K Q else E := by
 have hw : Region.wanted o (yielded ops a.tmps) = true := by simp [Region.wanted, hgd]
 rw [if_pos hw]
 exact Lib.wp_append_run w s x t tn ho vs vx hs hx v' w' hr h
def senL : List (Nat × Nat) := [(50, 0), (51, 1), (52, 2), (53, 3), (54, 4), (55, 5), (56, 6), (57, 7), (58, 8), (59, 9)]
def EvA (ev : Nat → TypeId × Value) (W : World) : Prop := ∀ x ∈ senL, W.cell? ⟨x.2, 0, none⟩ = some (.iface (ev x.1).1 (ev x.1).2)
theorem EvA.below {ev : Nat → TypeId × Value} {W W' : World} (h : EvA ev W) (hb : Below W.heap.size W W') : EvA ev W' := fun x hx => by
 rw [hb.cell (World.block_lt_of_cell? _ _ (h x hx))]
 exact h x hx
theorem EvA.wb {ev : Nat → TypeId × Value} {w w' : World} {b p : Nat} {s : ByteArray} (h : EvA ev w) (hr : Rd w b s p) (hw : Wb b w w') : EvA ev w' := fun x hx => by
 refine hw.cell (h x hx) (fun e => ?_)
 have h1 := h x hx
 rw [e, hr.cells.1] at h1
 cases h1
def TI (b : Nat) (s : ByteArray) (p : Nat) (v : Value) (a : List UInt8) (w W : World) : Prop := GOwn 5 1 bV W w.heap.size v a ∧ Rd W b s p ∧ Wb b w W ∧ b < w.heap.size
variable {b p q : Nat} {s : ByteArray} {v : Value} {a : List UInt8} {w W W' : World}
theorem gown_apart {B : Nat} (h : GOwn 5 1 bV W B v a) (hs : ∀ k, B ≤ k → k < W.heap.size → W'.heap[k]? = W.heap[k]?) : GOwn 5 1 bV W' B v a :=
 Du.owns_same h (fun g hg => by
  obtain ⟨h1, h2⟩ := World.ownsRow.lt (show W.ownsRow B 5 1 v a.length (a.flatMap bV) from h) g hg
  exact hs g h1 h2)
theorem TI.drew (h : TI b s p v a w W) (n : Nat) : TI b s p v a w (W.drewN n) := ⟨gown_apart h.1 (fun _ _ _ => rfl), h.2.1, h.2.2.1.trans wb_drew, h.2.2.2⟩
theorem TI.set (h : TI b s p v a w W) (q : Nat) : TI b s q v a w (W.setCell ⟨b, 1, none⟩ (.int .i64 (q : Int))) :=
 ⟨gown_apart h.1 (fun k hk _ => Go.heap_setCell_other _ _ _ _ (by have := h.2.2.2; show k ≠ b; omega)), h.2.1.set q, h.2.2.1.set 1 _, h.2.2.2⟩
theorem TI.wb (h : TI b s p v a w W) (hw : Wb b W W') (hr : Rd W' b s q) : TI b s q v a w W' :=
 ⟨gown_apart h.1 (fun k hk hl => hw.2 k hl (by have := h.2.2.2; omega)), hr, h.2.2.1.trans hw, h.2.2.2⟩
theorem TI.form (h : TI b s p v a w W) : ∃ va c, v = .slice va a.length c ∧ a.length ≤ c := by
 obtain ⟨va, c, e, h1, _⟩ := h.1.row bV_len
 exact ⟨va, c, e, h1⟩
theorem Rd.of (h : Rd W b s p) (he : W'.heap[b]? = W.heap[b]?) : Rd W' b s p := by
 unfold Rd at *
 rw [he]
 exact h
theorem TI.grown (h : TI b s p v a w W) {v' : Value} {a' : List UInt8} (o1 : GOwn 5 1 bV W' w.heap.size v' a') (b1 : Below w.heap.size W W') : TI b s p v' a' w W' :=
 ⟨o1, h.2.1.of (b1.block b h.2.2.2), ⟨h.2.2.1.1.trans (b1.mono (Nat.le_of_lt h.2.2.2)), fun k hk hkb => by rw [b1.block k hk]; exact h.2.2.1.2 k hk hkb⟩, h.2.2.2⟩
theorem TI.push (h : TI b s p v a w W) (x : UInt8) (ha : a.length ≤ 4096) :
  ∃ va n c w', (Builtin.append_ #[87, 87] 87 #[v, .slice (some ⟨W.heap.size, 0, none⟩) 1 1]).run Tryz.prog (W.alloc (.cells #[.int .u8 (x.toNat : Int)] 5)) = .ok (.slice va n c) w' ∧ TI b s p (.slice va n c) (a ++ [x]) w w' ∧ n = a.length + 1 ∧ Rd (W.alloc (.cells #[.int .u8 (x.toNat : Int)] 5)) b s p := by
 have hb : Below W.heap.size W (W.alloc (.cells #[.int .u8 (x.toNat : Int)] 5)) := (Below.refl _ _).alloc (Nat.le_refl _) _
 have hsz : w.heap.size ≤ W.heap.size := h.2.2.1.size
 obtain ⟨v', w', e1, o1, g1, b1⟩ := append_gen KDb (W.alloc (.cells #[.int .u8 (x.toNat : Int)] 5)) w.heap.size v a [x] (some ⟨W.heap.size, 0, none⟩) 1 1 (h.1.below hb) (g_new bV bV_len W 5 [x]) rfl (Nat.le_trans hsz hb.size) (by simp; omega)
 have h1 : TI b s p v' (a ++ [x]) w w' := h.grown o1 ((hb.mono hsz).trans b1)
 obtain ⟨va, c, rfl, _⟩ := h1.form
 exact ⟨va, _, c, w', e1, h1, by simp, h.2.1.below hb⟩
theorem TI.text (h : TI b s p v a w W) (t : ByteArray) (ha : a.length ≤ 4096) (ht : t.size ≤ 4096) :
  ∃ va n c w', (Builtin.append_ #[87, 9] 87 #[v, .string t]).run Tryz.prog W = .ok (.slice va n c) w' ∧ TI b s p (.slice va n c) (a ++ t.data.toList) w w' ∧ n = a.length + t.size := by
 have hsz : w.heap.size ≤ W.heap.size := h.2.2.1.size
 obtain ⟨i0, hi, hz0, hz1, hz2⟩ := info_parts info_u8
 have ho : W.ownsRow w.heap.size 5 1 v a.length (bv a) := by have := h.1; unfold GOwn at this; rwa [bV_flat] at this
 obtain ⟨v', w', hr, h2, h3, h4⟩ := Lib.run_append_own_string (P := Tryz.prog) W w.heap.size 87 9 87 5 i0 Tryz.underlying87 Tryz.underlying9 hi hz0 hz1 hz2 v a.length (bv a) ho t (by unfold maxLen; omega) (by omega) hsz
 have o1 : GOwn 5 1 bV w' w.heap.size v' (a ++ t.data.toList) := by
  unfold GOwn
  rw [bV_flat, List.length_append, size_l]
  have e : bv (a ++ t.data.toList) = bv a ++ Lib.strCells t := by simp [bv, Lib.strCells]
  rw [e]
  exact h2
 have b1 : Below w.heap.size W w' := (Below.refl _ _).grown h3 hsz (fun k hk => (World.ownsRow.lt ho k hk).1)
 have h1 : TI b s p v' (a ++ t.data.toList) w w' := h.grown o1 b1
 obtain ⟨va, c, rfl, _⟩ := h1.form
 exact ⟨va, _, c, w', hr, h1, by rw [List.length_append, size_l]⟩
theorem TI.front (h : TI b s p v a w W) (k : Nat) (hk : k ≤ a.length) (va : Option Addr) (n c : Nat) (hv : v = .slice va n c) : (convert 87 9 (.slice va k c)).run Tryz.prog W = .ok (.string (S (a.take k))) W := by
 subst hv
 have ho : W.ownsRow w.heap.size 5 1 (.slice va n c) a.length (bv a) := by have := h.1; unfold GOwn at this; rwa [bV_flat] at this
 have hp : W.ownsRow w.heap.size 5 1 (.slice va k c) k (bv (a.take k)) := by
  rcases ho with ⟨h1, ⟨e, h2⟩ | ⟨g, cap, cur, e, h3, h4, h5, h6, h7, h8⟩⟩
  ·injection e with e1 e2 e3
   subst e1 e3
   have hk0 : k = 0 := by omega
   subst hk0
   exact ⟨by simp [bv], Or.inl ⟨rfl, rfl⟩⟩
  ·injection e with e1 e2 e3
   subst e1 e3
   refine ⟨by simp [bv, hk], Or.inr ⟨g, c, cur, rfl, h3, h4, by omega, h6, h7, ?_⟩⟩
   rw [Nat.mul_one] at h8 ⊢
   have e : bv (a.take k) = (bv a).take k := by simp [bv]
   rw [e, ← h8, List.take_take, Nat.min_eq_left hk]
 exact own_back_any W w.heap.size 87 9 5 (.slice va k c) k (a.take k) Tryz.underlying87 Tryz.underlying5 Tryz.underlying9 hp
end Pa
end Go.Proofs.YtkknenmpdimdbaaGreatDoor
