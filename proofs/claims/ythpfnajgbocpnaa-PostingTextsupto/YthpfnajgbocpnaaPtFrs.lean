import Derived.Test.YthpfnajgbocpnaaPtSpd
namespace Go.Proofs.Ythpfnajgbocpnaa
namespace Pt
open Go.RowKit Go.Sort Go.Lib
open PtMath (Inc setOf cnt)
open PtHpM (Hd)
set_option linter.unusedVariables false
set_option maxRecDepth 100000
open PtT (Rk TB en)
variable {Tk : PtT.Rk}

/-- Cells that may be written. -/
def Wr (g n : Nat) (W : World) : Prop := ∀ i, i < n → (∃ u, W.cell? ⟨g, i, none⟩ = some u) ∧ W.frozen? ⟨g, i, none⟩ = false
theorem Wr.set {g n : Nat} {W : World} (h : Wr g n W) (j : Nat) (v : Value) : Wr g n (W.setCell ⟨g, j, none⟩ v) := fun i hi => by
  obtain ⟨⟨u, hu⟩, hf⟩ := h i hi
  rw [World.frozen?_setCell]
  refine ⟨?_, hf⟩
  by_cases e : j = i
  · subst e
    exact ⟨v, World.cell?_setCell_same W _ _ hu⟩
  · exact ⟨u, by rw [World.cell?_setCell_other W _ _ _ (by intro hh; injection hh with _ h2 _; exact e h2)]; exact hu⟩
theorem Wr.same {g n : Nat} {W W' : World} (h : Wr g n W) (e : 0 < n → W'.heap[g]? = W.heap[g]?) : Wr g n W' := fun i hi => by
  have e' := e (by omega)
  obtain ⟨⟨u, hu⟩, hf⟩ := h i hi
  refine ⟨⟨u, ?_⟩, ?_⟩
  · rw [World.cell?_of_block (w := W) (w' := W') (a := ⟨g, i, none⟩) e']; exact hu
  · rw [World.frozen?_of_block (w := W) (w' := W') (a := ⟨g, i, none⟩) e']; exact hf
theorem own_wr {W : World} {B n c : Nat} {a : Option Addr} {l : List Nat} (h : OwnI Tk W B (.slice a n c) l) : ∃ g, B ≤ g ∧ (0 < l.length → a = some ⟨g, 0, none⟩ ∧ g < W.heap.size) ∧ Wr g l.length W := by
  rcases h with ⟨h1, ⟨h2, h3⟩ | ⟨g, cap, cur, h2, h3, h4, h5⟩⟩
  · exact ⟨B, Nat.le_refl _, fun q => by omega, fun i hi => by omega⟩
  · injection h2 with e1 e2 e3
    refine ⟨g, h3, fun _ => ⟨e1, (Array.getElem?_eq_some_iff.1 h4).1⟩, fun i hi => ⟨?_, Lib.frozen_of_heap h4 i⟩⟩
    have hO : OwnI Tk W B (.slice (some ⟨g, 0, none⟩) l.length cap) l := ⟨h1, Or.inr ⟨g, cap, cur, rfl, h3, h4, h5⟩⟩
    exact ⟨_, ownI_cell hO i hi⟩
theorem NRow.but {W W' : World} {a : Option Addr} {l : List Nat} {g : Nat} (h : NRow Tk W a l) (hb : ∀ k, k ≠ g → W'.heap[k]? = W.heap[k]?) (hne : 0 < l.length → ∀ b off, a = some ⟨b, off, none⟩ → b ≠ g) : NRow Tk W' a l := fun i hi => by
  obtain ⟨b, off, e, h1⟩ := h i hi
  refine ⟨b, off, e, ?_⟩
  rw [World.cell?_of_block (w := W) (w' := W') (a := ⟨b, off + i, none⟩) (hb b (hne (by omega) b off e))]
  exact h1
theorem row_lt {W : World} {a : Option Addr} {l : List Nat} (h : NRow Tk W a l) (hl : 0 < l.length) (b off : Nat) (e : a = some ⟨b, off, none⟩) : b < W.heap.size := by
  obtain ⟨b', off', e', h1⟩ := h 0 hl
  rw [e] at e'
  injection e' with e'
  injection e' with e1 e2
  subst e1
  exact World.block_lt_of_cell? W _ h1
theorem aL_one (l : List Nat) : aL [l] 1 = setOf l := by
  refine (atl_uniq ⟨PtMath.setOf_inc l, fun x => ?_⟩).symm
  rw [PtMath.setOf_mem]
  unfold PtCnM.occ
  by_cases h : x ∈ l
  · simp [h]
  · simp [h]

theorem own_n {W : World} {B : Nat} {v : Value} {l : List Nat} {n : Nat} (h : OwnI Tk W B v l) (hn : l.length = n) : ∃ a c, v = .slice a n c ∧ OwnI Tk W B (.slice a n c) l := by
  obtain ⟨a, m, c, rfl⟩ := ownI_slice h
  obtain ⟨_, e⟩ := ownI_row h
  rw [hn] at e
  subst e
  exact ⟨a, c, rfl, h⟩
/-- Where the four rows lie. -/
def FrF (Tk : PtT.Rk) (w : World) (S : List Nat) (n : Nat) (a1 a2 a3 a4 : Option Addr) (gx gy : Nat) (W : World) : Prop :=
  w.heap.size ≤ gx ∧ w.heap.size ≤ gy ∧ (0 < n → a2 = some ⟨gx, 0, none⟩ ∧ a3 = some ⟨gy, 0, none⟩ ∧ gx < W.heap.size ∧ gy < W.heap.size ∧ gx ≠ gy) ∧ Wr gx n W ∧ Wr gy n W ∧
  (NRow Tk W a1 S ∧ NRow Tk W a3 S ∧ NRow Tk W a4 S) ∧ (0 < n → ∀ b off, (a1 = some ⟨b, off, none⟩ → b ≠ gx ∧ b ≠ gy) ∧ (a3 = some ⟨b, off, none⟩ → b ≠ gx) ∧ (a4 = some ⟨b, off, none⟩ → b ≠ gx ∧ b ≠ gy)) ∧ Below w.heap.size w W
theorem frf_of {w w1 w2 w3 w4 : World} {S : List Nat} {n c1 c2 c3 c4 : Nat} {a1 a2 a3 a4 : Option Addr} (hn : S.length = n) (o1 : OwnI Tk w1 w.heap.size (.slice a1 n c1) S) (o2 : OwnI Tk w2 w1.heap.size (.slice a2 n c2) S) (o3 : OwnI Tk w3 w2.heap.size (.slice a3 n c3) S) (o4 : OwnI Tk w4 w3.heap.size (.slice a4 n c4) S)
    (b1 : Below w.heap.size w w1) (b2 : Below w1.heap.size w1 w2) (b3 : Below w2.heap.size w2 w3) (b4 : Below w3.heap.size w3 w4) : ∃ gx gy, FrF Tk w S n a1 a2 a3 a4 gx gy w4 := by
  obtain ⟨gx, x1, x2, x3⟩ := own_wr o2
  obtain ⟨gy, y1, y2, y3⟩ := own_wr o3
  obtain ⟨gz, z1, z2, z3⟩ := own_wr o4
  have s1 := b1.size
  have s2 := b2.size
  have s3 := b3.size
  have s4 := b4.size
  rw [hn] at x2 x3 y2 y3 z2 z3
  refine ⟨gx, gy, by omega, by omega, fun h => ⟨(x2 h).1, (y2 h).1, by have := (x2 h).2; omega, by have := (y2 h).2; omega, by have := (x2 h).2; omega⟩, ?_, ?_, ⟨?_, ?_, (ownI_row o4).1⟩, fun h b off => ⟨fun e => ?_, fun e => ?_, fun e => ?_⟩, ?_⟩
  · refine x3.same fun h => ?_
    have := (x2 h).2
    rw [b4.block gx (by omega), b3.block gx this]
  · refine y3.same fun h => ?_
    rw [b4.block gy (y2 h).2]
  · exact (((ownI_row o1).1.below b2).below b3).below b4
  · exact (ownI_row o3).1.below b4
  · have h1 := row_lt (ownI_row o1).1 (by rw [hn]; exact h) b off e
    omega
  · have h1 := (y2 h).1
    rw [e] at h1
    injection h1 with h1
    injection h1 with h1
    have := (x2 h).2
    omega
  · have h1 := (z2 h).1
    rw [e] at h1
    injection h1 with h1
    injection h1 with h1
    have := (x2 h).2
    have := (y2 h).2
    omega
  · exact b1.trans ((b2.mono s1).trans ((b3.mono (by omega)).trans (b4.mono (by omega))))
theorem FrF.below {w W W' : World} {S : List Nat} {n : Nat} {a1 a2 a3 a4 : Option Addr} {gx gy : Nat} (h : FrF Tk w S n a1 a2 a3 a4 gx gy W) (hb : Below W.heap.size W W') : FrF Tk w S n a1 a2 a3 a4 gx gy W' := by
  obtain ⟨h1, h2, h3, h4, h5, ⟨h6, h7, h8⟩, h9, h10⟩ := h
  have hs := hb.size
  refine ⟨h1, h2, fun q => ?_, h4.same fun q => hb.block gx (h3 q).2.2.1, h5.same fun q => hb.block gy (h3 q).2.2.2.1, ⟨h6.below hb, h7.below hb, h8.below hb⟩, h9, h10.trans (hb.mono h10.size)⟩
  obtain ⟨q1, q2, q3, q4, q5⟩ := h3 q
  exact ⟨q1, q2, by omega, by omega, q5⟩
/-- Behind the writing over of x. -/
theorem FrF.xs {w W W' : World} {S : List Nat} {n : Nat} {a1 a2 a3 a4 : Option Addr} {gx gy : Nat} (hn : S.length = n) (h : FrF Tk w S n a1 a2 a3 a4 gx gy W) (hb : ButB gx W W') (hw : Wr gx n W') : FrF Tk w S n a1 a2 a3 a4 gx gy W' := by
  obtain ⟨h1, h2, h3, h4, h5, ⟨h6, h7, h8⟩, h9, h10⟩ := h
  have hs : W'.heap.size = W.heap.size := hb.2.2.2.1
  have hk : ∀ k, k ≠ gx → W'.heap[k]? = W.heap[k]? := hb.2.2.2.2
  refine ⟨h1, h2, fun q => by rw [hs]; exact h3 q, hw, h5.same fun q => hk gy (fun e => (h3 q).2.2.2.2 e.symm), ⟨h6.but hk fun q b off e => ?_, h7.but hk fun q b off e => ?_, h8.but hk fun q b off e => ?_⟩, h9, h10.trans ((hb.below h1).mono (Nat.le_refl _))⟩
  · exact ((h9 (by omega) b off).1 e).1
  · exact (h9 (by omega) b off).2.1 e
  · exact ((h9 (by omega) b off).2.2 e).1
/-- Behind the writing over of y. -/
def FrE (Tk : PtT.Rk) (w : World) (S : List Nat) (a1 a4 : Option Addr) (W : World) : Prop := NRow Tk W a1 S ∧ NRow Tk W a4 S ∧ Below w.heap.size w W
theorem FrF.ys {w W W' : World} {S : List Nat} {n : Nat} {a1 a2 a3 a4 : Option Addr} {gx gy : Nat} (hn : S.length = n) (h : FrF Tk w S n a1 a2 a3 a4 gx gy W) (hb : ButB gy W W') : FrE Tk w S a1 a4 W' := by
  obtain ⟨h1, h2, h3, h4, h5, ⟨h6, h7, h8⟩, h9, h10⟩ := h
  have hk : ∀ k, k ≠ gy → W'.heap[k]? = W.heap[k]? := hb.2.2.2.2
  refine ⟨h6.but hk fun q b off e => ?_, h8.but hk fun q b off e => ?_, h10.trans ((hb.below h2).mono (Nat.le_refl _))⟩
  · exact ((h9 (by omega) b off).1 e).2
  · exact ((h9 (by omega) b off).2.2 e).2
set_option maxRecDepth 1000000 in
set_option maxHeartbeats 4000000 in
theorem fresh_any (a : Option Addr) (l : List Nat) (c : Nat) (w : World) (h : Rd Tk w a c l) (hl : l.length ≤ 1048576) :
    Calls Try.prog 16 #[.slice a l.length c] w fun e w' => e = .returned (.bool true) ∧ Below w.heap.size w w' := by
  obtain ⟨S, hS⟩ : ∃ S, setOf l = S := ⟨_, rfl⟩
  obtain ⟨n, hn⟩ : ∃ n, S.length = n := ⟨_, rfl⟩
  obtain ⟨m, hm⟩ : ∃ m, l.length = m := ⟨_, rfl⟩
  have hnb : n ≤ 1048576 := by have := PtMath.setOf_len l; rw [hS, hn] at this; omega
  have hT : Hid (Calls Try.prog 6 #[.slice a m c] w fun e w' => ∃ a1 c1, e = .returned (.slice a1 n c1) ∧ OwnI Tk w' w.heap.size (.slice a1 n c1) S ∧ Below w.heap.size w w') := by
    have := sorted_any l.length a l c w (Nat.le_refl _) h.1 h.2.1 (by omega)
    rw [hS, hm] at this
    refine this.mono ?_
    rintro e w' ⟨v, rfl, o, b⟩
    obtain ⟨a1, c1, rfl, o1⟩ := own_n o hn
    exact ⟨a1, c1, rfl, o1, b⟩
  have hO : ∀ W, Hid (Below w.heap.size w W → Calls Try.prog 5 #[.slice a m c] W fun e w' => ∃ a1 c1, e = .returned (.slice a1 n c1) ∧ OwnI Tk w' W.heap.size (.slice a1 n c1) S ∧ Below W.heap.size W w') := fun W hW => by
    have := of_any a l c W (h.below hW).1 (by omega)
    rw [hS, hm] at this
    refine this.mono ?_
    rintro e w' ⟨v, rfl, o, b⟩
    obtain ⟨a1, c1, rfl, o1⟩ := own_n o hn
    exact ⟨a1, c1, rfl, o1, b⟩
  have hU : ∀ W, Hid (Below w.heap.size w W → Calls Try.prog 9 #[.slice (some ⟨W.heap.size, 0, none⟩) 1 1] (W.alloc (.cells #[.slice a m c] 23)) fun e w' => ∃ a1 c1, e = .returned (.slice a1 n c1) ∧ OwnI Tk w' W.heap.size (.slice a1 n c1) S ∧ Below W.heap.size W w') := fun W hW => by
    have hb : Below W.heap.size W (W.alloc (.cells #[.slice a l.length c] 23)) := (Below.refl _ _).alloc (Nat.le_refl _) _
    have := union_any (some ⟨W.heap.size, 0, none⟩) [(a, c, l)] 1 (W.alloc (.cells #[.slice a l.length c] 23)) (srow_lit W [(a, c, l)] 23) (by
      intro x hx
      rw [List.mem_singleton] at hx
      subst hx
      exact (h.below hW).below hb) (by simp) (by simp [lsts, tot]; omega)
    rw [← hm]
    refine this.mono ?_
    rintro e w' ⟨v, M, rfl, o, hM, b⟩
    have e1 : M = S := by
      rw [atl_uniq hM, ← hS, ← aL_one l]
      rfl
    subst e1
    obtain ⟨a1, c1, rfl, o1⟩ := own_n o hn
    exact ⟨a1, c1, rfl, ownI_base o1 (by simp), hb.trans (b.mono (by simp))⟩
  have hSm : ∀ W a1 c1 a2 c2, Hid (NRow Tk W a1 S ∧ NRow Tk W a2 S ∧ n ≤ c1 ∧ c1 ≤ maxLen ∧ n ≤ c2 ∧ c2 ≤ maxLen → Calls Try.prog 4 #[.slice a1 n c1, .slice a2 n c2] W fun e w' => e = .returned (.bool true) ∧ Below W.heap.size W w') := fun W a1 c1 a2 c2 q => by
    have := same_yes S S a1 a2 c1 c2 W ⟨q.1, by omega, q.2.2.2.1, by omega⟩ ⟨q.2.1, by omega, q.2.2.2.2.2, by omega⟩ rfl
    rw [hn] at this
    exact this
  have hn' : Hid (S.length = n) := hn
  have nb : (n : Int) ≤ 1048576 := by omega
  have hcp : Hid (∀ (W : World) (B : Nat) (a1 : Option Addr) (c1 : Nat), OwnI Tk W B (.slice a1 n c1) S → n ≤ c1 ∧ c1 ≤ maxLen) := fun W B a1 c1 o => by
    rcases ownI_form o with ⟨e1, e2⟩ | ⟨g, cap, e1, e2, e3, _⟩
    · injection e1 with _ e4 e5
      subst e5
      exact ⟨by omega, by unfold maxLen; omega⟩
    · injection e1 with _ e4 e5
      subst e5
      exact ⟨by omega, e3⟩
  rw [hm]
  clear hS hm h hl hn hnb
  go_enter Try.func16, Try.ntmps16
  go_wp2_with (first
    | (refine (Hid.out HB3 |> fun _ => ?_); go_at_call 5; refine ((hO w3).out HB3.out).mono ?_; rintro e w4 ⟨a4, c4, rfl, o4, b4⟩; have HB4 : Hid (Below w.heap.size w w4) := HB3.out.trans (b4.mono HB3.out.size); clear HB3)
    | (refine (Hid.out HB2 |> fun _ => ?_); go_at_call 9; refine ((hU w2).out HB2.out).mono ?_; rintro e w3 ⟨a3, c3, rfl, o3, b3⟩; have HB3 : Hid (Below w.heap.size w w3) := HB2.out.trans (b3.mono HB2.out.size))
    | (refine (Hid.out HB1 |> fun _ => ?_); go_at_call 5; refine ((hO w1).out HB1.out).mono ?_; rintro e w2 ⟨a2, c2, rfl, o2, b2⟩; have HB2 : Hid (Below w.heap.size w w2) := HB1.out.trans (b2.mono HB1.out.size))
    | (go_at_call 6; refine hT.out.mono ?_; rintro e w1 ⟨a1, c1, rfl, o1, b1⟩; have HB1 : Hid (Below w.heap.size w w1) := b1))
  have k1 := hcp.out _ _ _ _ o1
  have k3 := hcp.out _ _ _ _ o3
  have k4 := hcp.out _ _ _ _ o4
  obtain ⟨gx, gy, hF⟩ := frf_of hn'.out o1 o2 o3 o4 b1 b2 b3 b4
  have hF' : Hid (FrF Tk w S n a1 a2 a3 a4 gx gy w4) := hF
  have hk : Hid (n ≤ c1 ∧ c1 ≤ maxLen ∧ n ≤ c3 ∧ c3 ≤ maxLen ∧ n ≤ c4 ∧ c4 ≤ maxLen) := ⟨k1.1, k1.2, k3.1, k3.2, k4.1, k4.2⟩
  clear hF o1 o2 o3 o4 b1 b2 b3 b4 HB1 HB2 HB4 hT hU k1 k3 k4
  go_loopw [7] (fun ivv wr => ∃ i : Nat, ivv = .int .i64 (i : Int) ∧ i ≤ n ∧ Hid (ButB gx w4 wr ∧ Wr gx n wr)) (fun ivv _ => n - (intOf ivv).toNat)
  case atStart => exact ⟨0, rfl, Nat.zero_le _, ButB.refl _ _, hF'.out.2.2.2.1⟩
  case round =>
    obtain ⟨i, rfl, hi, hR⟩ := hrel
    have i0 : (0 : Int) ≤ (i : Int) := Int.natCast_nonneg _
    by_cases hlt : i < n
    · have i1 : (i : Int) < (n : Int) := Int.ofNat_lt.2 hlt
      obtain ⟨rfl, rfl, _⟩ := hF'.out.2.2.1 (by omega)
      obtain ⟨⟨u, cu⟩, fu⟩ := hR.out.2 i hlt
      obtain ⟨WS, hWS⟩ : ∃ WS, wr.setCell ⟨gx, i, none⟩ (.string { data := #[119, 114, 105, 116, 116, 101, 110, 32, 111, 118, 101, 114] }) = WS := ⟨_, rfl⟩
      have hfin : Hid (ButB gx w4 WS ∧ Wr gx n WS) := by rw [← hWS]; exact ⟨hR.out.1.trans (ButB.set _ _ _ _), hR.out.2.set _ _⟩
      have hlt' : Hid (i < n) := hlt
      clear hi hlt hR
      go_wp2_with fail
      go_roundw
      case rel => exact ⟨i + 1, by simp, hlt'.out, hfin⟩
      case measure => have := hlt'.out; simp [intOf]; omega
    · have e : i = n := by omega
      subst e
      have i1 : ¬ (i : Int) < (i : Int) := by omega
      have hG : Hid (FrF Tk w S i a1 a2 a3 a4 gx gy wr) := FrF.xs hn'.out hF'.out hR.out.1 hR.out.2
      clear hi hlt hR
      obtain ⟨w5, hw5⟩ : ∃ w5, w5 = wr := ⟨_, rfl⟩
      subst hw5
      have m1 : Hid (Calls Try.prog 4 #[.slice a3 i c3, .slice a1 i c1] w5 fun e w' => e = .returned (.bool true) ∧ Below w5.heap.size w5 w') := (hSm w5 a3 c3 a1 c1).out ⟨hG.out.2.2.2.2.2.1.2.1, hG.out.2.2.2.2.2.1.1, hk.out.2.2.1, hk.out.2.2.2.1, hk.out.1, hk.out.2.1⟩
      have m2 : Hid (∀ W, Below w5.heap.size w5 W → Calls Try.prog 4 #[.slice a4 i c4, .slice a1 i c1] W fun e w' => e = .returned (.bool true) ∧ Below W.heap.size W w') := fun W hW => (hSm W a4 c4 a1 c1).out ⟨(hG.out.2.2.2.2.2.1.2.2).below hW, (hG.out.2.2.2.2.2.1.1).below hW, hk.out.2.2.2.2.1, hk.out.2.2.2.2.2, hk.out.1, hk.out.2.1⟩
      go_wp2_with (first
        | (refine (Hid.out H6 |> fun _ => ?_); go_at_call 4; refine (m2.out w6 H6.out).mono ?_; rintro e w7 ⟨rfl, b7⟩; have H7 : Hid (Below w5.heap.size w5 w7) := H6.out.trans (b7.mono H6.out.size); clear b7)
        | (go_at_call 4; refine m1.out.mono ?_; rintro e w6 ⟨rfl, b6⟩; have H6 : Hid (Below w5.heap.size w5 w6) := b6; clear b6))
      have hH : Hid (FrF Tk w S i a1 a2 a3 a4 gx gy w7) := hG.out.below H7.out
      clear m1 m2 H6 H7 hG hF' i1
      obtain ⟨n, hn2⟩ : ∃ n, n = i := ⟨_, rfl⟩
      subst hn2
      go_loopw [8] (fun ivv wr => ∃ i : Nat, ivv = .int .i64 (i : Int) ∧ i ≤ n ∧ Hid (ButB gy w7 wr ∧ Wr gy n wr)) (fun ivv _ => n - (intOf ivv).toNat)
      case atStart => exact ⟨0, rfl, Nat.zero_le _, ButB.refl _ _, hH.out.2.2.2.2.1⟩
      case round =>
        obtain ⟨j, rfl, hj, hR⟩ := hrel
        have j0 : (0 : Int) ≤ (j : Int) := Int.natCast_nonneg _
        by_cases hlt : j < n
        · have j1 : (j : Int) < (n : Int) := Int.ofNat_lt.2 hlt
          obtain ⟨rfl, rfl, _⟩ := hH.out.2.2.1 (by omega)
          obtain ⟨⟨u, cu⟩, fu⟩ := hR.out.2 j hlt
          obtain ⟨WS, hWS⟩ : ∃ WS, wr.setCell ⟨gy, j, none⟩ (.string { data := #[111, 110, 99, 101, 32, 109, 111, 114, 101] }) = WS := ⟨_, rfl⟩
          have hfin : Hid (ButB gy w7 WS ∧ Wr gy n WS) := by rw [← hWS]; exact ⟨hR.out.1.trans (ButB.set _ _ _ _), hR.out.2.set _ _⟩
          have hlt' : Hid (j < n) := hlt
          clear hj hlt hR
          go_wp2_with fail
          go_roundw
          case rel => exact ⟨j + 1, by simp, hlt'.out, hfin⟩
          case measure => have := hlt'.out; simp [intOf]; omega
        · have e : j = n := by omega
          subst e
          have j1 : ¬ (j : Int) < (j : Int) := by omega
          have hE : Hid (FrE Tk w S a1 a4 wr) := FrF.ys hn'.out hH.out hR.out.1
          clear hj hlt hR hH
          have m3 : Hid (Calls Try.prog 4 #[.slice a4 j c4, .slice a1 j c1] wr fun e w' => e = .returned (.bool true) ∧ Below wr.heap.size wr w') := (hSm wr a4 c4 a1 c1).out ⟨hE.out.2.1, hE.out.1, hk.out.2.2.2.2.1, hk.out.2.2.2.2.2, hk.out.1, hk.out.2.1⟩
          have m4 : Hid (∀ W a5 c5, Below wr.heap.size wr W → ∀ B, OwnI Tk W B (.slice a5 j c5) S → Calls Try.prog 4 #[.slice a5 j c5, .slice a1 j c1] W fun e w' => e = .returned (.bool true) ∧ Below W.heap.size W w') := fun W a5 c5 hW B o5 => (hSm W a5 c5 a1 c1).out ⟨(ownI_row o5).1, hE.out.1.below hW, (hcp.out _ _ _ _ o5).1, (hcp.out _ _ _ _ o5).2, hk.out.1, hk.out.2.1⟩
          go_wp2_with (first
            | (refine (Hid.out H9 |> fun _ => ?_); go_at_call 4; refine (m4.out w9 a9 c9 H9.out.1 _ H9.out.2).mono ?_; rintro e w10 ⟨rfl, b10⟩; have H10 : Hid (Below wr.heap.size wr w10) := H9.out.1.trans (b10.mono H9.out.1.size); clear b10)
            | (refine (Hid.out H8 |> fun _ => ?_); go_at_call 5; refine ((hO w8).out (hE.out.2.2.trans (H8.out.mono hE.out.2.2.size))).mono ?_; rintro e w9 ⟨a9, c9, rfl, o9, b9⟩; have H9 : Hid (Below wr.heap.size wr w9 ∧ OwnI Tk w9 w8.heap.size (.slice a9 j c9) S) := ⟨H8.out.trans (b9.mono H8.out.size), o9⟩; clear b9 o9)
            | (go_at_call 4; refine m3.out.mono ?_; rintro e w8 ⟨rfl, b8⟩; have H8 : Hid (Below wr.heap.size wr w8) := b8; clear b8))
          go_ret
          exact ⟨rfl, hE.out.2.2.trans (H10.out.mono hE.out.2.2.size)⟩
end Pt
end Go.Proofs.Ythpfnajgbocpnaa
