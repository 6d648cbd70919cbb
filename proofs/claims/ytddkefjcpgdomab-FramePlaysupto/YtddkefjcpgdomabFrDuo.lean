import Derived.Test.YtddkefjcpgdomabFrStep2
import Derived.Test.YtddkefjcpgdomabFrJoinM
namespace Go.Proofs.Ytddkefjcpgdomab
open Go.RowKit
open FrMath (Hdr lb bd within Out ends cut Cut)

/-- The bytes that have come behind one more step. -/
def nx (b : List UInt8) (kd : Int) (c : ByteArray) : List UInt8 := if kd = 1 then b ++ c.data.toList else b
def fed (F : Nat → Int) (X : Nat → ByteArray) : Nat → List UInt8
  | 0 => []
  | i + 1 => nx (fed F X i) (F i) (X i)
theorem nx_len (b : List UInt8) (kd : Int) (c : ByteArray) : (nx b kd c).length ≤ b.length + c.size := by
  unfold nx
  split
  · rw [List.length_append, size_l]; exact Nat.le_refl _
  · omega
theorem fed_len (F : Nat → Int) (X : Nat → ByteArray) (i : Nat) : (fed F X i).length ≤ tot X i := by
  induction i with
  | zero => exact Nat.le_refl _
  | succ i ih =>
    have := nx_len (fed F X i) (F i) (X i)
    show (nx (fed F X i) (F i) (X i)).length ≤ tot X i + ((X i).size + 3)
    omega

theorem step_any (fb gb : Nat) (lim : Int) (b : List UInt8) (v : Value) (w : World) (H : Nat) (kd : Int) (c : ByteArray) (s : FSt fb lim b v w H) (hR : Cells w gb (rfL lim (S b) (Cut lim b).ms.length)) (hfg : fb ≠ gb) (hvg : v.ownBlock ≠ some gb) (hH : H ≤ w.heap.size) (hsz : b.length + c.size ≤ 4194304) :
    Calls Try.prog 17 #[.pointer (some ⟨fb, 0, none⟩), .pointer (some ⟨gb, 0, none⟩), .agg #[.int .i64 kd, .string c]] w fun e w' => e = .returned (.bool true) ∧ ∃ v', FSt fb lim (nx b kd c) v' w' H ∧ Cells w' gb (rfL lim (S (nx b kd c)) (Cut lim (nx b kd c)).ms.length) ∧ Fresh v v' w ∧ Below 0 w w' ∧ ∀ x, x < w.heap.size → x ≠ fb → x ≠ gb → v.ownBlock ≠ some x → w'.heap[x]? = w.heap[x]? := by
  by_cases hk : kd = 1
  · subst hk
    have e : nx b 1 c = b ++ c.data.toList := if_pos rfl
    rw [e]
    exact step_feed fb gb lim b v w H c _ _ rfl rfl s hR hfg hvg hH (by rw [List.length_append, size_l]; exact hsz)
  · have e : nx b kd c = b := if_neg hk
    rw [e]
    refine (step_ask fb gb lim b v w H _ kd c hk s hR (by omega)).mono ?_
    rintro r w' ⟨rfl, hb⟩
    exact ⟨rfl, v, s.of (hb.block fb s.lt) (fun x hx => hb.block x (s.high x hx).2) hb.size, hR.of_block (hb.block gb hR.lt), Fresh.refl _ _, hb.mono (Nat.zero_le _), fun x hx _ _ _ => hb.block x hx⟩

/-- Where two framers and their references lie, and a block K that is left alone. -/
structure Lay (B H K fb gb fb2 gb2 : Nat) : Prop where
  h1 : B ≤ fb ∧ B ≤ gb ∧ B ≤ fb2 ∧ B ≤ gb2
  h2 : fb < H ∧ gb < H ∧ fb2 < H ∧ gb2 < H
  h3 : fb ≠ gb ∧ fb ≠ fb2 ∧ fb ≠ gb2 ∧ gb ≠ fb2 ∧ gb ≠ gb2 ∧ fb2 ≠ gb2
  h4 : K ≠ fb ∧ K ≠ gb ∧ K ≠ fb2 ∧ K ≠ gb2
theorem Lay.swap {B H K fb gb fb2 gb2 : Nat} (y : Lay B H K fb gb fb2 gb2) : Lay B H K fb2 gb2 fb gb := by
  obtain ⟨⟨a1, a2, a3, a4⟩, ⟨b1, b2, b3, b4⟩, ⟨c1, c2, c3, c4, c5, c6⟩, ⟨d1, d2, d3, d4⟩⟩ := y
  exact ⟨⟨a3, a4, a1, a2⟩, ⟨b3, b4, b1, b2⟩, ⟨c6, c2.symm, c4.symm, c3.symm, c5.symm, c1⟩, ⟨d3, d4, d1, d2⟩⟩
/-- Two framers beside their references. -/
structure Duo (W0 : World) (B H K : Nat) (C : Option Obj) (fb gb fb2 gb2 : Nat) (lim lim2 : Int) (b b2 : List UInt8) (v v2 : Value) (W : World) : Prop where
  f : FSt fb lim b v W H
  g : Cells W gb (rfL lim (S b) (Cut lim b).ms.length)
  f2 : FSt fb2 lim2 b2 v2 W H
  g2 : Cells W gb2 (rfL lim2 (S b2) (Cut lim2 b2).ms.length)
  ap : ∀ x, v.ownBlock = some x → v2.ownBlock ≠ some x
  le : H ≤ W.heap.size ∧ B ≤ H
  bel : Below B W0 W
  kc : W.heap[K]? = C ∧ K < W.heap.size ∧ v.ownBlock ≠ some K ∧ v2.ownBlock ≠ some K
theorem Duo.swap {W0 : World} {B H K : Nat} {C : Option Obj} {fb gb fb2 gb2 : Nat} {lim lim2 : Int} {b b2 : List UInt8} {v v2 : Value} {W : World} (d : Duo W0 B H K C fb gb fb2 gb2 lim lim2 b b2 v v2 W) : Duo W0 B H K C fb2 gb2 fb gb lim2 lim b2 b v2 v W :=
  ⟨d.f2, d.g2, d.f, d.g, fun x h1 h2 => d.ap x h2 h1, d.le, d.bel, d.kc.1, d.kc.2.1, d.kc.2.2.2, d.kc.2.2.1⟩
theorem duo_one {W0 : World} {B H K : Nat} {C : Option Obj} {fb gb fb2 gb2 : Nat} {lim lim2 : Int} {b b2 : List UInt8} {v v2 : Value} {W : World} (y : Lay B H K fb gb fb2 gb2) (d : Duo W0 B H K C fb gb fb2 gb2 lim lim2 b b2 v v2 W) (kd : Int) (c : ByteArray) (hsz : b.length + c.size ≤ 4194304) :
    Calls Try.prog 17 #[.pointer (some ⟨fb, 0, none⟩), .pointer (some ⟨gb, 0, none⟩), .agg #[.int .i64 kd, .string c]] W fun e w' => e = .returned (.bool true) ∧ ∃ v', Duo W0 B H K C fb gb fb2 gb2 lim lim2 (nx b kd c) b2 v' v2 w' := by
  obtain ⟨⟨a1, a2, a3, a4⟩, ⟨b1, b2', b3, b4⟩, ⟨c1, c2, c3, c4, c5, c6⟩, ⟨d1, d2, d3, d4⟩⟩ := y
  have hle := d.le
  have hvn : ∀ x, x < H → v.ownBlock ≠ some x := fun x hx hh => by have := (d.f.high x hh).1; omega
  refine (step_any fb gb lim b v W H kd c d.f d.g c1 (hvn gb (by omega)) hle.1 hsz).mono ?_
  rintro r w' ⟨rfl, v', s', g', fr, z, kp⟩
  have hsz' := z.size
  refine ⟨rfl, v', s', g', ?_, ?_, ?_, ⟨by omega, hle.2⟩, ?_, ?_⟩
  · exact d.f2.of (kp fb2 (by omega) c2.symm c4.symm (hvn fb2 b3)) (fun x hx => kp x (d.f2.high x hx).2 (by have := (d.f2.high x hx).1; omega) (by have := (d.f2.high x hx).1; omega) (fun hh => d.ap x hh hx)) hsz'
  · exact d.g2.of_block (kp gb2 (by omega) c3.symm c5.symm (hvn gb2 b4))
  · intro x h1 h2
    rcases fr with h | h
    · exact d.ap x (by rw [← h]; exact h1) h2
    · have := h x h1
      have := (d.f2.high x h2).2
      omega
  · refine ⟨z.os.trans d.bel.os, z.tape.trans d.bel.tape, z.output.trans d.bel.output, Nat.le_trans d.bel.size hsz', fun x hx => ?_⟩
    rw [kp x (by omega) (by omega) (by omega) (hvn x (by omega))]
    exact d.bel.block x hx
  · obtain ⟨k1, k2, k3, k4⟩ := d.kc
    refine ⟨?_, by omega, fun hh => ?_, k4⟩
    · rw [kp K k2 d1 d2 k3]; exact k1
    · rcases fr with h | h
      · exact k3 (by rw [← h]; exact hh)
      · have := h K hh
        omega
theorem duo_two {W0 : World} {B H K : Nat} {C : Option Obj} {fb gb fb2 gb2 : Nat} {lim lim2 : Int} {b b2 : List UInt8} {v v2 : Value} {W : World} (y : Lay B H K fb gb fb2 gb2) (d : Duo W0 B H K C fb gb fb2 gb2 lim lim2 b b2 v v2 W) (kd : Int) (c : ByteArray) (hsz : b2.length + c.size ≤ 4194304) :
    Calls Try.prog 17 #[.pointer (some ⟨fb2, 0, none⟩), .pointer (some ⟨gb2, 0, none⟩), .agg #[.int .i64 kd, .string c]] W fun e w' => e = .returned (.bool true) ∧ ∃ v', Duo W0 B H K C fb gb fb2 gb2 lim lim2 b (nx b2 kd c) v v' w' := by
  refine (duo_one y.swap d.swap kd c hsz).mono ?_
  rintro r w' ⟨h, v', d'⟩
  exact ⟨h, v', d'.swap⟩
end Go.Proofs.Ytddkefjcpgdomab
