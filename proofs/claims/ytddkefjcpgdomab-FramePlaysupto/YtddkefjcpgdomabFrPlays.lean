import Derived.Test.YtddkefjcpgdomabFrDuo
namespace Go.Proofs.Ytddkefjcpgdomab
open Go.RowKit
open FrMath (Hdr lb bd within Out ends cut Cut)

theorem fst_new {fb : Nat} {lim : Int} {W : World} {H : Nat} (hC : Cells W fb (frL lim 0 (.slice none 0 0) ⟨2, 2, 0⟩)) : FSt fb lim [] (.slice none 0 0) W H := by
  refine ⟨fun _ => ?_, fun h => ?_, fun x hx => by cases hx⟩
  · rw [Cut_nil]
    refine ⟨?_, ⟨rfl, Or.inl ⟨rfl, rfl⟩⟩, proper_nil lim⟩
    show Cells W fb (frL lim 0 _ (FrMath.look lim []))
    rw [FrMath.look_nil]
    exact hC
  · rw [Cut_nil] at h
    exact absurd rfl h
theorem rf_new {gb : Nat} {lim : Int} {W : World} (h : Cells W gb (rfL lim ⟨#[]⟩ 0)) : Cells W gb (rfL lim (S []) (Cut lim []).ms.length) := by
  rw [Cut_nil]
  exact h

theorem ops_below {w wr : World} {a : Option Addr} {l : Nat} {F : Nat → Int} {X : Nat → ByteArray} (hi : IsBodies w a l F X) (HB : Below w.heap.size w wr) : IsBodies wr a l F X := fun i h => by
  obtain ⟨b, off, h1, h2, h3⟩ := hi i h
  have hb : b < w.heap.size := World.block_lt_of_cell? w _ h2
  exact ⟨b, off, h1, by rw [World.cell?_of_block (w := w) (HB.block b hb)]; exact h2, by rw [World.cell?_of_block (w := w) (HB.block b hb)]; exact h3⟩

def lastK : Nat → Int
  | 0 => 2
  | 1 => 3
  | 2 => 4
  | 3 => 1
  | _ => 4
def lastY : Nat → ByteArray
  | 3 => ⟨#[48, 0]⟩
  | _ => ⟨#[]⟩
theorem lastY_size (i : Nat) : (lastY i).size ≤ 2 := by
  unfold lastY
  split
  · exact Nat.le_refl 2
  · exact Nat.zero_le 2
theorem last_at (wr : World) (W : World) (h : W.heap[wr.heap.size]? = (wr.alloc (.cells #[.int .i64 2, .string ⟨#[]⟩, .int .i64 3, .string ⟨#[]⟩, .int .i64 4, .string ⟨#[]⟩, .int .i64 1, .string ⟨#[48, 0]⟩, .int .i64 4, .string ⟨#[]⟩] 50)).heap[wr.heap.size]?) (i : Nat) (hi : i < 5) : W.cell? ⟨wr.heap.size, i * 2, none⟩ = some (.int .i64 (lastK i)) ∧ W.cell? ⟨wr.heap.size, i * 2 + 1, none⟩ = some (.string (lastY i)) := by
  refine ⟨(World.cell?_of_block (w := wr.alloc (.cells #[.int .i64 2, .string ⟨#[]⟩, .int .i64 3, .string ⟨#[]⟩, .int .i64 4, .string ⟨#[]⟩, .int .i64 1, .string ⟨#[48, 0]⟩, .int .i64 4, .string ⟨#[]⟩] 50)) (a := ⟨wr.heap.size, i * 2, none⟩) h).trans ?_, (World.cell?_of_block (w := wr.alloc (.cells #[.int .i64 2, .string ⟨#[]⟩, .int .i64 3, .string ⟨#[]⟩, .int .i64 4, .string ⟨#[]⟩, .int .i64 1, .string ⟨#[48, 0]⟩, .int .i64 4, .string ⟨#[]⟩] 50)) (a := ⟨wr.heap.size, i * 2 + 1, none⟩) h).trans ?_⟩
  all_goals clear h
  all_goals
    have : i = 0 ∨ i = 1 ∨ i = 2 ∨ i = 3 ∨ i = 4 := by omega
    rcases this with rfl | rfl | rfl | rfl | rfl <;> simp [go_sem, lastK, lastY]

set_option maxHeartbeats 2000000 in
theorem framePlays_walk (l1 l2 : Int) (a : Option Addr) (l c : Nat) (F : Nat → Int) (X : Nat → ByteArray) (w : World) (hi : IsBodies w a l F X) (htot : tot X l ≤ 1048576) :
    Calls Try.prog 5 #[.agg #[.int .i64 l1, .int .i64 l2, .slice a l c]] w fun e w' => e = .returned (.bool true) ∧ Below w.heap.size w w' := by
  have hl3 : 3 * l ≤ 1048576 := Nat.le_trans (tot_ge X l) htot
  have BA : Below w.heap.size w (w.alloc (.cells #[.int .i64 l1, .int .i64 l2, .slice a l c] 45)) := (Below.refl _ _).alloc (Nat.le_refl _) _
  have hP : Cells (w.alloc (.cells #[.int .i64 l1, .int .i64 l2, .slice a l c] 45)) w.heap.size [.int .i64 l1, .int .i64 l2, .slice a l c] := cells3_new w _ _ _ _
  have hnA : (w.alloc (.cells #[.int .i64 l1, .int .i64 l2, .slice a l c] 45)).heap.size = w.heap.size + 1 := by simp
  have hN1 : ∀ W, Hid (Calls Try.prog 9 #[.int .i64 l1] W fun e w' => ∃ fb, e = .returned (.pointer (some ⟨fb, 0, none⟩)) ∧ W.heap.size ≤ fb ∧ w'.heap.size = fb + 1 ∧ Cells w' fb (frL l1 0 (.slice none 0 0) ⟨2, 2, 0⟩) ∧ Below W.heap.size W w') := fun W => new_any l1 W
  have hN2 : ∀ W, Hid (Calls Try.prog 9 #[.int .i64 l2] W fun e w' => ∃ fb, e = .returned (.pointer (some ⟨fb, 0, none⟩)) ∧ W.heap.size ≤ fb ∧ w'.heap.size = fb + 1 ∧ Cells w' fb (frL l2 0 (.slice none 0 0) ⟨2, 2, 0⟩) ∧ Below W.heap.size W w') := fun W => new_any l2 W
  have hM1 : ∀ W, Hid (Calls Try.prog 16 #[.int .i64 l1] W fun e w' => e = .returned (.pointer (some ⟨W.heap.size, 0, none⟩)) ∧ w'.heap.size = W.heap.size + 1 ∧ Cells w' W.heap.size (rfL l1 ⟨#[]⟩ 0) ∧ Below W.heap.size W w') := fun W => refNew_any l1 W
  have hM2 : ∀ W, Hid (Calls Try.prog 16 #[.int .i64 l2] W fun e w' => e = .returned (.pointer (some ⟨W.heap.size, 0, none⟩)) ∧ w'.heap.size = W.heap.size + 1 ∧ Cells w' W.heap.size (rfL l2 ⟨#[]⟩ 0) ∧ Below W.heap.size W w') := fun W => refNew_any l2 W
  go_enter Try.func5, Try.ntmps5
  go_wp2_with fail
  refine (hN1 _).out.mono ?_
  rintro r w1 ⟨fb, rfl, hf1, hn1, C1, B1⟩
  generalize w.alloc (.cells #[.int .i64 l1, .int .i64 l2, .slice a l c] 45) = wA at *
  have P1 := hP.of_block (B1.block w.heap.size (by omega))
  obtain ⟨p0, p1, p2, _, _, _⟩ := cells3 P1
  go_wp2_with fail
  refine (hM1 _).out.mono ?_
  rintro r w2 ⟨rfl, hn2, G2, B2⟩
  have P2 := P1.of_block (B2.block w.heap.size (by omega))
  clear p0 p1 p2
  obtain ⟨p0, p1, p2, _, _, _⟩ := cells3 P2
  go_wp2_with fail
  refine (hN2 _).out.mono ?_
  rintro r w3 ⟨fb2, rfl, hf3, hn3, C3, B3⟩
  have P3 := P2.of_block (B3.block w.heap.size (by omega))
  clear p0 p1 p2
  obtain ⟨p0, p1, p2, _, _, _⟩ := cells3 P3
  go_wp2_with fail
  refine (hM2 _).out.mono ?_
  rintro r w4 ⟨rfl, hn4, G4, B4⟩
  have P4 := P3.of_block (B4.block w.heap.size (by omega))
  clear p0 p1 p2
  obtain ⟨gb, hgb⟩ : ∃ gb, fb + 1 = gb := ⟨_, rfl⟩
  obtain ⟨gb2, hgb2⟩ : ∃ gb2, fb2 + 1 = gb2 := ⟨_, rfl⟩
  have D0 : Duo w w.heap.size w4.heap.size w.heap.size (wA.heap[w.heap.size]?) fb gb fb2 gb2 l1 l2 [] [] (.slice none 0 0) (.slice none 0 0) w4 := by
    refine ⟨fst_new ?_, rf_new ?_, fst_new ?_, rf_new ?_, fun x hx => (by cases hx), ⟨Nat.le_refl _, by omega⟩, ?_, ?_, by omega, fun h => (by cases h), fun h => (by cases h)⟩
    · exact C1.of_block (by rw [B4.block fb (by omega), B3.block fb (by omega), B2.block fb (by omega)])
    · rw [← hgb, ← hn1]; exact G2.of_block (by rw [B4.block w1.heap.size (by omega), B3.block w1.heap.size (by omega)])
    · exact C3.of_block (by rw [B4.block fb2 (by omega)])
    · rw [← hgb2, ← hn3]; exact G4
    · exact ((BA.trans (B1.mono (by omega))).trans (B2.mono (by omega))).trans ((B3.mono (by omega)).trans (B4.mono (by omega)))
    · rw [B4.block w.heap.size (by omega), B3.block w.heap.size (by omega), B2.block w.heap.size (by omega), B1.block w.heap.size (by omega)]
  have Y0 : Lay w.heap.size w4.heap.size w.heap.size fb gb fb2 gb2 := ⟨⟨by omega, by omega, by omega, by omega⟩, ⟨by omega, by omega, by omega, by omega⟩, ⟨by omega, by omega, by omega, by omega, by omega, by omega⟩, ⟨by omega, by omega, by omega, by omega⟩⟩
  have hord : Hid (w.heap.size < fb ∧ fb < gb ∧ gb < fb2 ∧ fb2 < gb2 ∧ gb2 < w4.heap.size) := ⟨by omega, by omega, by omega, by omega, by omega⟩
  rw [hn3, hgb, hgb2]
  have hP' : Hid (Cells wA w.heap.size [.int .i64 l1, .int .i64 l2, .slice a l c]) := hP
  generalize w4.heap.size = H at *
  clear P1 P2 P3 P4 C1 G2 C3 G4 B1 B2 B3 B4 hf1 hn1 hn2 hf3 hn3 hn4 hgb hgb2 hN1 hN2 hM1 hM2 hnA BA hP
  go_wp2_with fail
  go_loopw [7] (fun iv wr => ∃ (i : Nat) (v v2 : Value), i ≤ l ∧ iv = .int .i64 (i : Int) ∧ Hid (Duo w w.heap.size H w.heap.size (wA.heap[w.heap.size]?) fb gb fb2 gb2 l1 l2 (fed F X i) (fed F X i) v v2 wr)) (fun iv _ => l - (intOf iv).toNat)
  case atStart => exact ⟨0, _, _, Nat.zero_le _, rfl, D0⟩
  case round =>
    obtain ⟨i, v, v2, hil, rfl, D⟩ := hrel
    have box : ∀ (W : World) (x y : List UInt8) (u u2 : Value), Duo w w.heap.size H w.heap.size (wA.heap[w.heap.size]?) fb gb fb2 gb2 l1 l2 x y u u2 W → Cells W w.heap.size [.int .i64 l1, .int .i64 l2, .slice a l c] := fun W x y u u2 d => hP'.out.of_block d.kc.1
    obtain ⟨p0, p1, p2, _, _, _⟩ := cells3 (box _ _ _ _ _ D.out)
    by_cases hlt : i < l
    · obtain ⟨b, off, rfl, hc1, hc2⟩ := (ops_below hi D.out.bel) i hlt
      have htl : tot X i + ((X i).size + 3) ≤ 1048576 := Nat.le_trans (tot_mono X (i + 1) l hlt) htot
      have hfl := fed_len F X i
      have hsum : (fed F X i).length + (X i).size ≤ 4194304 := by omega
      have i0 : (0 : Int) ≤ (i : Int) := Int.natCast_nonneg _
      have i1 : (i : Int) < (l : Int) := Int.ofNat_lt.2 hlt
      have hS1 : Hid (Calls Try.prog 17 #[.pointer (some ⟨fb, 0, none⟩), .pointer (some ⟨gb, 0, none⟩), .agg #[.int .i64 (F i), .string (X i)]] wr fun e w' => e = .returned (.bool true) ∧ ∃ v', Duo w w.heap.size H w.heap.size (wA.heap[w.heap.size]?) fb gb fb2 gb2 l1 l2 (fed F X (i + 1)) (fed F X i) v' v2 w') := duo_one Y0 D.out (F i) (X i) hsum
      go_wp2_with fail
      refine hS1.out.mono ?_
      rintro r w5 ⟨rfl, v5, D5⟩
      have hS2 : Hid (Calls Try.prog 17 #[.pointer (some ⟨fb2, 0, none⟩), .pointer (some ⟨gb2, 0, none⟩), .agg #[.int .i64 (F i), .string (X i)]] w5 fun e w' => e = .returned (.bool true) ∧ ∃ v', Duo w w.heap.size H w.heap.size (wA.heap[w.heap.size]?) fb gb fb2 gb2 l1 l2 (fed F X (i + 1)) (fed F X (i + 1)) v5 v' w') := duo_two Y0 D5 (F i) (X i) hsum
      obtain ⟨b', off', hbo, hd1, hd2⟩ := (ops_below hi D5.bel) i hlt
      injection hbo with hbo
      injection hbo with hb1 hb2
      subst hb1 hb2
      clear p0 p1 p2 hc1 hc2 hS1
      obtain ⟨p0, p1, p2, _, _, _⟩ := cells3 (box _ _ _ _ _ D5)
      replace D5 : Hid (Duo w w.heap.size H w.heap.size (wA.heap[w.heap.size]?) fb gb fb2 gb2 l1 l2 (fed F X (i + 1)) (fed F X i) v5 v2 w5) := D5
      clear D box
      go_wp2_with fail
      refine hS2.out.mono ?_
      rintro r w6 ⟨rfl, v6, D6⟩
      replace D6 : Hid (Duo w w.heap.size H w.heap.size (wA.heap[w.heap.size]?) fb gb fb2 gb2 l1 l2 (fed F X (i + 1)) (fed F X (i + 1)) v5 v6 w6) := D6
      clear hS2 p0 p1 p2 hd1 hd2
      go_wp2_with fail
      go_roundw
      case rel => exact ⟨i + 1, v5, v6, hlt, by simp, D6⟩
      case measure => simp [intOf]; omega
    · have hke : i = l := by omega
      subst hke
      have hfl := fed_len F X i
      have hbl0 : Hid ((fed F X i).length ≤ 1048576) := Nat.le_trans hfl htot
      have hDl := D.out.le
      have DL : Duo w w.heap.size H wr.heap.size ((wr.alloc (.cells #[.int .i64 2, .string ⟨#[]⟩, .int .i64 3, .string ⟨#[]⟩, .int .i64 4, .string ⟨#[]⟩, .int .i64 1, .string ⟨#[48, 0]⟩, .int .i64 4, .string ⟨#[]⟩] 50)).heap[wr.heap.size]?) fb gb fb2 gb2 l1 l2 (fed F X i) (fed F X i) v v2 (wr.alloc (.cells #[.int .i64 2, .string ⟨#[]⟩, .int .i64 3, .string ⟨#[]⟩, .int .i64 4, .string ⟨#[]⟩, .int .i64 1, .string ⟨#[48, 0]⟩, .int .i64 4, .string ⟨#[]⟩] 50)) := by
        have d := D.out
        refine ⟨d.f.of (Below.heap_alloc _ _ _ d.f.lt) (fun x hx => Below.heap_alloc _ _ _ (d.f.high x hx).2) (by simp), d.g.of_block (Below.heap_alloc _ _ _ d.g.lt), d.f2.of (Below.heap_alloc _ _ _ d.f2.lt) (fun x hx => Below.heap_alloc _ _ _ (d.f2.high x hx).2) (by simp), d.g2.of_block (Below.heap_alloc _ _ _ d.g2.lt), d.ap, ⟨by simp; omega, hDl.2⟩, d.bel.alloc (by omega) _, rfl, by simp, fun h => ?_, fun h => ?_⟩
        · have := (d.f.high _ h).2
          omega
        · have := (d.f2.high _ h).2
          omega
      have YL : Lay w.heap.size H wr.heap.size fb gb fb2 gb2 := by
        obtain ⟨y1, y2, y3, _⟩ := Y0
        exact ⟨y1, y2, y3, ⟨by omega, by omega, by omega, by omega⟩⟩
      have DL' : Hid (Duo w w.heap.size H wr.heap.size ((wr.alloc (.cells #[.int .i64 2, .string ⟨#[]⟩, .int .i64 3, .string ⟨#[]⟩, .int .i64 4, .string ⟨#[]⟩, .int .i64 1, .string ⟨#[48, 0]⟩, .int .i64 4, .string ⟨#[]⟩] 50)).heap[wr.heap.size]?) fb gb fb2 gb2 l1 l2 (fed F X i) (fed F X i) v v2 (wr.alloc (.cells #[.int .i64 2, .string ⟨#[]⟩, .int .i64 3, .string ⟨#[]⟩, .int .i64 4, .string ⟨#[]⟩, .int .i64 1, .string ⟨#[48, 0]⟩, .int .i64 4, .string ⟨#[]⟩] 50))) := DL
      have hat := last_at wr
      clear DL D box D0 Y0 hDl hfl
      go_wp2_with fail
      obtain ⟨K, hK⟩ : ∃ K, wr.heap.size = K := ⟨_, rfl⟩
      obtain ⟨C, hC⟩ : ∃ C, (wr.alloc (.cells #[.int .i64 2, .string ⟨#[]⟩, .int .i64 3, .string ⟨#[]⟩, .int .i64 4, .string ⟨#[]⟩, .int .i64 1, .string ⟨#[48, 0]⟩, .int .i64 4, .string ⟨#[]⟩] 50)).heap[wr.heap.size]? = C := ⟨_, rfl⟩
      rw [hC] at DL' hat
      rw [hK] at DL' hat YL ⊢
      generalize fed F X i = b0 at *
      generalize wr.alloc (.cells #[.int .i64 2, .string ⟨#[]⟩, .int .i64 3, .string ⟨#[]⟩, .int .i64 4, .string ⟨#[]⟩, .int .i64 1, .string ⟨#[48, 0]⟩, .int .i64 4, .string ⟨#[]⟩] 50) = wL at *
      replace hat : ∀ W : World, W.heap[K]? = C → ∀ i, Hid (i < 5 → W.cell? ⟨K, i * 2, none⟩ = some (.int .i64 (lastK i)) ∧ W.cell? ⟨K, i * 2 + 1, none⟩ = some (.string (lastY i))) := fun W h i hi => hat W h i hi
      clear hK hC p0 p1 p2
      go_loopw [9] (fun iv wr => ∃ (j : Nat) (b : List UInt8) (v v2 : Value), j ≤ 5 ∧ iv = .int .i64 (j : Int) ∧ Hid (b.length ≤ 1048576 + 2 * j) ∧ Hid (Duo w w.heap.size H K C fb gb fb2 gb2 l1 l2 b b v v2 wr)) (fun iv _ => 5 - (intOf iv).toNat)
      case atStart => exact ⟨0, b0, _, _, Nat.zero_le _, rfl, hbl0, DL'⟩
      case round =>
        obtain ⟨j, b, u, u2, hj, rfl, hbl, D⟩ := hrel
        by_cases hlt : j < 5
        · obtain ⟨hc1, hc2⟩ := (hat _ D.out.kc.1 j).out hlt
          have hy := lastY_size j
          have hsum : b.length + (lastY j).size ≤ 4194304 := by have := hbl.out; omega
          have j0 : (0 : Int) ≤ (j : Int) := Int.natCast_nonneg _
          have j1 : (j : Int) < 5 := by omega
          have hbl2 : Hid ((nx b (lastK j) (lastY j)).length ≤ 1048576 + 2 * (j + 1)) := by
            have h1 := nx_len b (lastK j) (lastY j)
            have h2 := hbl.out
            unfold Hid
            omega
          have hS1 : Hid (Calls Try.prog 17 #[.pointer (some ⟨fb, 0, none⟩), .pointer (some ⟨gb, 0, none⟩), .agg #[.int .i64 (lastK j), .string (lastY j)]] wr fun e w' => e = .returned (.bool true) ∧ ∃ v', Duo w w.heap.size H K C fb gb fb2 gb2 l1 l2 (nx b (lastK j) (lastY j)) b v' u2 w') := duo_one YL D.out (lastK j) (lastY j) hsum
          have hS2 : ∀ v' w', Hid (Duo w w.heap.size H K C fb gb fb2 gb2 l1 l2 (nx b (lastK j) (lastY j)) b v' u2 w' → Calls Try.prog 17 #[.pointer (some ⟨fb2, 0, none⟩), .pointer (some ⟨gb2, 0, none⟩), .agg #[.int .i64 (lastK j), .string (lastY j)]] w' fun e w'' => e = .returned (.bool true) ∧ ∃ v'', Duo w w.heap.size H K C fb gb fb2 gb2 l1 l2 (nx b (lastK j) (lastY j)) (nx b (lastK j) (lastY j)) v' v'' w'') := fun v' w' (d : Duo w w.heap.size H K C fb gb fb2 gb2 l1 l2 (nx b (lastK j) (lastY j)) b v' u2 w') => duo_two YL d (lastK j) (lastY j) hsum
          have hat2 : ∀ W : World, W.heap[K]? = C → W.cell? ⟨K, j * 2, none⟩ = some (.int .i64 (lastK j)) ∧ W.cell? ⟨K, j * 2 + 1, none⟩ = some (.string (lastY j)) := fun W h => (hat W h j).out hlt
          clear hat
          generalize nx b (lastK j) (lastY j) = b' at *
          generalize lastK j = kd at *
          generalize lastY j = cc at *
          clear hy hsum DL'
          go_wp2_with fail
          refine hS1.out.mono ?_
          rintro r w5 ⟨rfl, v5, D5⟩
          clear hc1 hc2
          obtain ⟨hc1, hc2⟩ := hat2 _ D5.kc.1
          have hS3 := (hS2 v5 w5).out D5
          replace hS3 : Hid (Calls Try.prog 17 #[.pointer (some ⟨fb2, 0, none⟩), .pointer (some ⟨gb2, 0, none⟩), .agg #[.int .i64 kd, .string cc]] w5 fun e w'' => e = .returned (.bool true) ∧ ∃ v'', Duo w w.heap.size H K C fb gb fb2 gb2 l1 l2 b' b' v5 v'' w'') := hS3
          clear hS1 hS2 D5 D hat2
          go_wp2_with fail
          refine hS3.out.mono ?_
          rintro r w6 ⟨rfl, v6, D6⟩
          replace D6 : Hid (Duo w w.heap.size H K C fb gb fb2 gb2 l1 l2 b' b' v5 v6 w6) := D6
          clear hS3 hc1 hc2
          go_wp2_with fail
          go_roundw
          case rel => exact ⟨j + 1, b', v5, v6, hlt, by simp, hbl2, D6⟩
          case measure => simp [intOf]; omega
        · have hke : j = 5 := by omega
          subst hke
          have hfin := D.out.bel
          clear D DL' hat
          go_wp2_with fail
          go_ret
          exact ⟨rfl, hfin⟩
end Go.Proofs.Ytddkefjcpgdomab
