import Derived.Test.YtfpphhbpoaobfaaGreatDoorRoR
import Derived.Test.YtfpphhbpoaobfaaGreatDoorRoV
namespace Go.Proofs.YtfpphhbpoaobfaaGreatDoor
namespace Rd
open Go.RowKit Go.Shelf
open LdMath
open GSeM (StM postM)
open Lr (PR RC pf chg okD dnB ChgTab GOwn GRow pV pV_len Kd PX RX rV rV_len append_gen RRow PRow said rrow_at prow_at drewN_below)
attribute [local go_sem] Oper.semAt_some
set_option linter.unusedVariables false
set_option maxRecDepth 100000

theorem wpIn_act {c : Code} {F : Fence} {n : Nat} {P : Program} {Q : Exit → Act → World → Prop} {a : Act} {w : World} (h : ∀ a0, a0 = a → c.wpIn F n P Q a0 w) : c.wpIn F n P Q a w := h a rfl
theorem records_any (s : ByteArray) (w : World) : Calls Tryz.prog 11 #[.string s] w fun e w' => e = .returned (.func (.func 24) #[] #[.pointer (some ⟨w.heap.size, 0, none⟩)]) ∧ w.alloc (.cells #[.string s] 9) = w' := by
  go_enter Tryz.func11, Tryz.ntmps11
  go_wp2
  go_ret
  exact ⟨rfl, rfl⟩
/-- All that is older but the count's box is as it was. -/
def Gq (W7 : World) (nb : Nat) (W : World) : Prop := (W.os = W7.os ∧ W.tape = W7.tape ∧ W.output = W7.output) ∧ W7.heap.size ≤ W.heap.size ∧ ∀ k, k < W7.heap.size → k ≠ nb → W.heap[k]? = W7.heap[k]?
theorem Gq.refl (W7 : World) (nb : Nat) : Gq W7 nb W7 := ⟨⟨rfl, rfl, rfl⟩, Nat.le_refl _, fun _ _ _ => rfl⟩
theorem Gq.mr {W7 W W' : World} {nb : Nat} (h : Gq W7 nb W) (hm : Mr W7.heap.size W W') : Gq W7 nb W' := ⟨⟨hm.1.1.trans h.1.1, hm.1.2.1.trans h.1.2.1, hm.1.2.2.trans h.1.2.2⟩, Nat.le_trans h.2.1 hm.2.1, fun k hk hn => by
  have hl : k < W.heap.size := Nat.lt_of_lt_of_le hk h.2.1
  have h1 : W.heap[k]? = some W.heap[k] := Array.getElem?_eq_getElem hl
  rw [hm.2.2 k _ h1 (.inl hk), ← h1]
  exact h.2.2 k hk hn⟩
theorem Gq.cell {W7 W : World} {nb : Nat} (h : Gq W7 nb W) {b o : Nat} {v : Value} (hc : W7.cell? ⟨b, o, none⟩ = some v) (hn : b ≠ nb) : W.cell? ⟨b, o, none⟩ = some v := by
  have hl := World.block_lt_of_cell? W7 _ hc
  have h1 := h.2.2 b hl hn
  have e : W.cell? ⟨b, o, none⟩ = W7.cell? ⟨b, o, none⟩ := by simp [World.cell?, h1]
  rw [e]
  exact hc
/-- The count's box. -/
def Nb (nb i : Nat) (W : World) : Prop := W.heap[nb]? = some (.cells #[.int .i64 (i : Int)] 3 (0, 0))
def GoI (W7 : World) (nb nl : Nat) (pre : List RX) (W : World) : Prop := Gq W7 nb W ∧ Nb nb pre.length W ∧ pre.length ≤ nl
def GoX (W7 : World) (nb nl : Nat) (c : Code) (pre : List RX) (W : World) : Prop := c = .exit 2 ∧ Gq W7 nb W ∧ Nb nb nl W
theorem nb_mr {B nb i : Nat} {W W' : World} (h : Nb nb i W) (hm : Mr B W W') (hb : nb < B) : Nb nb i W' := hm.2.2 nb _ h (.inl hb)
theorem goI_mr {W7 : World} {nb nl : Nat} (hb : nb < W7.heap.size) : StM (Mr W7.heap.size) (GoI W7 nb nl) := fun pre W W' h hm => ⟨h.1.mr hm, nb_mr h.2.1 hm hb, h.2.2⟩
theorem goX_mr {W7 : World} {nb nl : Nat} (hb : nb < W7.heap.size) (c : Code) : StM (Mr W7.heap.size) (GoX W7 nb nl c) := fun pre W W' h hm => ⟨h.1, h.2.1.mr hm, nb_mr h.2.2 hm hb⟩
/-- What a round of the law does to the rest. -/
def Bq (nb : Nat) (W W' : World) : Prop := (W'.os = W.os ∧ W'.tape = W.tape ∧ W'.output = W.output) ∧ W.heap.size ≤ W'.heap.size ∧ ∀ k, k < W.heap.size → k ≠ nb → W'.heap[k]? = W.heap[k]?
theorem Bq.refl (nb : Nat) (W : World) : Bq nb W W := ⟨⟨rfl, rfl, rfl⟩, Nat.le_refl _, fun _ _ _ => rfl⟩
theorem Bq.below {nb : Nat} {A B C : World} (h : Bq nb A B) (hb : Below B.heap.size B C) : Bq nb A C := ⟨⟨hb.os.trans h.1.1, hb.tape.trans h.1.2.1, hb.output.trans h.1.2.2⟩, Nat.le_trans h.2.1 hb.size, fun k hk hn => (hb.block k (Nat.lt_of_lt_of_le hk h.2.1)).trans (h.2.2 k hk hn)⟩
theorem Bq.set {nb : Nat} {A B : World} (h : Bq nb A B) (v : Value) : Bq nb A (B.setCell ⟨nb, 0, none⟩ v) := ⟨h.1, by rw [World.size_setCell]; exact h.2.1, fun k hk hn => (Below.heap_setCell _ _ _ _ hn).trans (h.2.2 k hk hn)⟩
theorem Bq.drew {nb : Nat} {A B : World} (h : Bq nb A B) (q : Nat) : Bq nb A (B.drewN q) := ⟨h.1, h.2.1, h.2.2⟩
theorem bq_keeps {nb i B : Nat} {W W' : World} (h : Bq nb W W') (hn : Nb nb i W) (hT : 3 < nb ∧ 0 < nb) : KeepsFrom B W W' ∧ KpR W W' := by
  have st : ∀ (k : Nat) (o : Obj), W.heap[k]? = some o → (∀ cs, o ≠ .cells cs 3 (0, 0)) → W'.heap[k]? = some o := fun k o hk ho => by
    rw [h.2.2 k (Array.getElem?_eq_some_iff.1 hk).1 (fun e => ?_)]
    · exact hk
    · subst e
      rw [show W.heap[k]? = _ from hn] at hk
      injection hk with hk
      exact ho _ hk.symm
  have hlt : nb < W.heap.size := (Array.getElem?_eq_some_iff.1 hn).1
  refine ⟨⟨h.2.1, fun k o _ hk ho => st k o hk (fun cs e => by subst e; cases ho)⟩, ⟨h.2.1, fun k hk => h.2.2 k (by rcases hk with rfl | rfl <;> omega) (by rcases hk with rfl | rfl <;> omega), fun k cs t ht hk => st k _ hk (fun cs' e => by injection e with _ e _; rcases ht with rfl | rfl | rfl <;> cases e)⟩, fun k cs hk => st k _ hk (fun cs' e => by injection e with _ e _; cases e)⟩
theorem gq_bq {W7 W W' : World} {nb : Nat} (h : Gq W7 nb W) (hb : Bq nb W W') : Gq W7 nb W' := ⟨⟨hb.1.1.trans h.1.1, hb.1.2.1.trans h.1.2.1, hb.1.2.2.trans h.1.2.2⟩, Nat.le_trans h.2.1 hb.2.1, fun k hk hn => (hb.2.2 k (Nat.lt_of_lt_of_le hk h.2.1) hn).trans (h.2.2 k hk hn)⟩
theorem nil_seq (v : Value) (W : World) : (binOp .eql 32 (.func (.func 24) #[] #[v]) .nilFunc).run Tryz.prog W = .ok (.bool false) W := by kernel_rfl
theorem end_facts {w W : World} {D : Nat} (h : Rb w W) (hD : w.heap.size < D) (hK : W.heap[D]? = some (.deferred (some []))) : (W.setCell ⟨w.heap.size, 0, none⟩ (.bool true)).heap[D]? = some (.deferred (some [])) ∧ ((W.setCell ⟨w.heap.size, 0, none⟩ (.bool true)).putObj D (.deferred none)).cell? ⟨w.heap.size, 0, none⟩ = some (.bool true) ∧ Below w.heap.size w ((W.setCell ⟨w.heap.size, 0, none⟩ (.bool true)).putObj D (.deferred none)) := by
  have h1 := Go.heap_setCell_same W w.heap.size 0 _ _ (.bool true) h.1
  have hb := (h.done true).2
  refine ⟨(Below.heap_setCell _ _ _ _ (by show D ≠ w.heap.size; omega)).trans hK, row1 ((World.putObj_heap_other (by omega)).trans h1), hb.grown (grownBy_putObj' _ D _) hb.size (fun k e => by injection e with e; omega)⟩
theorem kpR_trans {A B C : World} (h : KpR A B) (h' : KpR B C) : KpR A C := ⟨h.1.trans h'.1, fun k cs hk => h'.2 k cs (h.2 k cs hk)⟩
theorem kpR_put {w : World} (hw : 3 < w.heap.size ∧ 0 < w.heap.size) (W : World) (l : Nat) (o o' : Obj) (hl : w.heap.size ≤ l) (ho : W.heap[l]? = some o) (hc : o.isCells = false) (hk : o.isWalk = false) : KpR W (W.putObj l o') := ⟨kp_put0 hw W l o o' hl ho hc hk, fun k cs hk => by
  rw [World.putObj_heap_other (fun e => ?_)]
  · exact hk
  · subst e
    rw [hk] at ho
    injection ho with ho
    subst ho
    cases hc⟩
/-- Below the count's box all is as it was ahead of the loop. -/
theorem gq_low {W5 W7 W : World} {nb : Nat} (h : Gq W7 nb W) (h7 : Below W5.heap.size W5 W7) (hn : W5.heap.size = nb) : Below W5.heap.size W5 W := ⟨h.1.1.trans h7.os, h.1.2.1.trans h7.tape, h.1.2.2.trans h7.output, Nat.le_trans h7.size h.2.1, fun k hk => (h.2.2 k (Nat.lt_of_lt_of_le hk h7.size) (by omega)).trans (h7.block k hk)⟩
/-- The element that comes is the record at that place. -/
theorem pre_at {M more : List Rc} {R : List Rc} (hR : R = M ++ more) {pre : List RX} {x : RX} (h : (pre ++ [x]).map sr <+: R.map rr) (hlt : pre.length < M.length) : sr x = rr M[pre.length] := by
  obtain ⟨z, hz⟩ := h
  have h1 : (R.map rr)[pre.length]? = some (sr x) := by rw [← hz]; simp
  rw [hR, List.getElem?_map, List.getElem?_append_left hlt, List.getElem?_eq_getElem hlt] at h1
  exact (Option.some.inj h1).symm
set_option maxRecDepth 1000000 in
set_option maxHeartbeats 8000000 in
/-- A text that is loaded. -/
theorem go_main (s mo t : ByteArray) (hs : s.size ≤ 1048576) (hts : t.size ≤ 10485760) (T1 : ByteArray) (hT1 : s ++ ({ data := #[10, 10] } : ByteArray) = T1) (ht : T1 ++ mo = t) (y1 : ¬ 9223372036854775807 < s.size + 2) (y2 : ¬ 9223372036854775807 < T1.size + mo.size) (n0 n1 : Nat) (v0 v1 : Int) (hU : ∀ W, Calls Tryz.prog 8 #[.string s] W fun e w' => ∃ a c, e = .returned (.tuple #[.slice a n1 c, .int .i64 0, .int .i64 v1]) ∧ Below W.heap.size W w') (hV : ∀ W, Calls Tryz.prog 8 #[.string t] W fun e w' => ∃ a c, e = .returned (.tuple #[.slice a n0 c, .int .i64 0, .int .i64 v0]) ∧ Below W.heap.size W w')
    (w : World) (M more : List Rc) (nl : Nat) (hnl : M.length = nl) (hnb : nl ≤ 1048578) (hpl : ∀ r ∈ M, r.2.2.length ≤ 10485766) (hLs : ∀ W, Below w.heap.size w W → Calls Tryz.prog 10 #[.string s] W fun e w' => ∃ a c Rs, e = .returned (.tuple #[.slice a nl c, .int .i64 0, .int .i64 0]) ∧ LdRw w' M a Rs ∧ Below W.heap.size W w') (hmt : (rdT t.data.toList).1 = M ++ more) (hWt : WTab w) (hCt : ChgTab w) :
    Calls Tryz.prog 3 #[.string s, .string mo] w fun e w' => e = .returned (.bool true) ∧ Below w.heap.size w w' := by
  obtain ⟨Wa, hWa⟩ : ∃ Wa, w.alloc (.cells #[.bool false] 4) = Wa := ⟨_, rfl⟩
  have Ra : Hid (Rb w Wa) := by unfold Hid; rw [← hWa]; exact Rb.new w
  have hF : Hid (Calls Tryz.prog 7 #[] Wa fun e w' => e = .returned (.bool true) ∧ Below Wa.heap.size Wa w') := fixed_any Wa (hWt.below Ra.out.2) (hCt.below Ra.out.2)
  have hU' : Hid (∀ W, Calls Tryz.prog 8 #[.string s] W fun e w' => ∃ a c, e = .returned (.tuple #[.slice a n1 c, .int .i64 0, .int .i64 v1]) ∧ Below W.heap.size W w') := hU
  have hV' : Hid (∀ W, Calls Tryz.prog 8 #[.string t] W fun e w' => ∃ a c, e = .returned (.tuple #[.slice a n0 c, .int .i64 0, .int .i64 v0]) ∧ Below W.heap.size W w') := hV
  have hL' : Hid (∀ W, Below w.heap.size w W → Calls Tryz.prog 10 #[.string s] W fun e w' => ∃ a c Rs, e = .returned (.tuple #[.slice a nl c, .int .i64 0, .int .i64 0]) ∧ LdRw w' M a Rs ∧ Below W.heap.size W w') := hLs
  have hTb : Hid (WTab w ∧ ChgTab w) := ⟨hWt, hCt⟩
  have hMM : Hid (M.length = nl ∧ (∀ r ∈ M, r.2.2.length ≤ 10485766) ∧ (rdT t.data.toList).1 = M ++ more ∧ t.size ≤ 10485760 ∧ nl ≤ 1048578) := ⟨hnl, hpl, hmt, hts, hnb⟩
  have sz : (s.size : Int) ≤ 1048576 := by omega
  have nlb : (nl : Int) ≤ 1048578 := by omega
  clear hU hV hLs hWt hCt hnl hpl hmt hts hnb
  refine (callsIn_wide (n := 7)).1 ?_
  refine callsIn_of_wp_marks Tryz.func3 rfl trivial ?_ rfl
  simp only [Tryz.ntmps3, List.size_toArray, List.length_cons, List.length_nil, Nat.reduceAdd, Nat.reduceSub, Array.replicate_succ, Array.replicate_zero, List.push_toArray, List.append_toArray, List.nil_append, List.cons_append]
  gi_wp2_with (first
    | (refine (Hid.out R3 |> fun _ => ?_); refine ⟨trivial, ?_⟩; gi_at_call 9; refine (callsIn_wide.2 (num_any _ _)).mono ?_; rintro e w9 ⟨rfl, rfl⟩)
    | (refine (Hid.out R3 |> fun _ => ?_); refine ⟨trivial, ?_⟩; gi_at_call 10; refine (callsIn_wide.2 (hL'.out _ R3.out.2)).mono ?_; rintro e w4 ⟨a4, c4, Rs, rfl, hR4, hb4⟩; obtain ⟨W5, hW5⟩ : ∃ W5, w4.alloc (.cells #[.slice a4 nl c4] 28) = W5 := ⟨_, rfl⟩; have hb5 : Below w4.heap.size w4 W5 := (by rw [← hW5]; exact (Below.refl _ _).alloc (Nat.le_refl _) _); have R5 : Hid (Rb w W5 ∧ LdRw W5 M a4 Rs ∧ W5.heap[w4.heap.size]? = some (.cells #[.slice a4 nl c4] 28 (0, 0))) := ⟨(R3.out.below hb4).below hb5, hR4.below hb5, (by rw [← hW5]; exact heap_alloc_last w4 _)⟩; clear hb4 hb5 hR4)
    | (refine (Hid.out R2 |> fun _ => ?_); refine ⟨trivial, ?_⟩; gi_at_call 8; refine (callsIn_wide.2 (hV'.out _)).mono ?_; rintro e w3 ⟨a3, c3, rfl, hb3⟩; have R3 : Hid (Rb w w3) := R2.out.below hb3; clear hb3)
    | (refine ⟨trivial, ?_⟩; gi_at_call 8; refine (callsIn_wide.2 (hU'.out _)).mono ?_; rintro e w2 ⟨a2, c2, rfl, hb2⟩; have R2 : Hid (Rb w w2) := R1.out.below hb2; clear hb2)
    | (refine ⟨trivial, ?_⟩; gi_at_call 7; refine (callsIn_wide.2 hF.out).mono ?_; rintro e w1 ⟨rfl, hb1⟩; have R1 : Hid (Rb w w1) := Ra.out.below hb1; clear hb1 hF))
  obtain ⟨lb, hlb⟩ : ∃ lb, w4.heap.size = lb := ⟨_, rfl⟩
  rw [hlb] at R5
  rw [hlb]
  clear hW5 R1 R2 R3 Ra hWa hL' hU' hV' hlb
  gi_loopw [16, 17] (fun ev iv wr => ∃ i e : Nat, i ≤ s.size ∧ iv = .int .i64 (i : Int) ∧ ev = .int .i64 (e : Int) ∧ e ≤ i + 1 ∧ W5 = wr) (fun _ iv _ => s.size - (intOf iv).toNat)
  case atStart => exact ⟨0, 1, Nat.zero_le _, rfl, rfl, Nat.le_refl _, rfl⟩
  case round =>
    obtain ⟨i, e, hi, rfl, rfl, he, rfl⟩ := hrel
    have i0 : (0 : Int) ≤ (i : Int) := Int.natCast_nonneg _
    have e0 : (0 : Int) ≤ (e : Int) := Int.natCast_nonneg _
    have e1 : (e : Int) ≤ 1048577 := by omega
    have he' : Hid (e ≤ i + 1) := he
    clear he
    by_cases hlt : i < s.size
    · obtain ⟨z, hz⟩ : ∃ z : Int, (s[i].toNat : Int) = z := ⟨_, rfl⟩
      have k1 : (i : Int) < (s.size : Int) := Int.ofNat_lt.2 hlt
      have hcase : (z == 10) = true ∨ ((z == 10) = false ∧ ((i : Int) == (s.size : Int) - 1) = true) ∨ ((z == 10) = false ∧ ((i : Int) == (s.size : Int) - 1) = false) := by
        cases (z == 10) <;> cases ((i : Int) == (s.size : Int) - 1) <;> simp
      have hlt' : Hid (i < s.size) := hlt
      clear hi
      rcases hcase with hb | ⟨hb, hb'⟩ | ⟨hb, hb'⟩
      · gi_wp2
        go_roundw
        case rel => exact ⟨i + 1, e + 1, hlt'.out, by simp, by simp, by have := he'.out; omega, trivial⟩
        case measure => have := hlt'.out; simp [intOf]; omega
      · gi_wp2
        go_roundw
        case rel => exact ⟨i + 1, e + 1, hlt'.out, by simp, by simp, by have := he'.out; omega, trivial⟩
        case measure => have := hlt'.out; simp [intOf]; omega
      · gi_wp2
        go_roundw
        case rel => exact ⟨i + 1, e, hlt'.out, by simp, rfl, by have := he'.out; omega, trivial⟩
        case measure => have := hlt'.out; simp [intOf]; omega
    · have k1 : ¬ (i : Int) < (s.size : Int) := by omega
      obtain ⟨nb, hnb⟩ : ∃ nb, W5.heap.size = nb := ⟨_, rfl⟩
      obtain ⟨W6, hW6⟩ : ∃ W6, W5.alloc (.cells #[.int .i64 0] 3) = W6 := ⟨_, rfl⟩
      obtain ⟨W7, hW7⟩ : ∃ W7, W6.alloc (.cells #[.string t] 9) = W7 := ⟨_, rfl⟩
      have hs6 : W6.heap.size = nb + 1 := by rw [← hW6, ← hnb]; simp
      have hs7 : W7.heap.size = nb + 2 := by rw [← hW7]; simp; omega
      have b6 : Below W5.heap.size W5 W6 := by rw [← hW6]; exact (Below.refl _ _).alloc (Nat.le_refl _) _
      have b7 : Below W6.heap.size W6 W7 := by rw [← hW7]; exact (Below.refl _ _).alloc (Nat.le_refl _) _
      have b57 : Below W5.heap.size W5 W7 := b6.trans (b7.mono b6.size)
      have hN7 : Nb nb 0 W7 := (b7.block nb (by omega)).trans (by rw [← hW6, ← hnb]; exact heap_alloc_last W5 _)
      have hT7 : W7.heap[nb + 1]? = some (.cells #[.string t] 9 (0, 0)) := by rw [← hW7, ← hs6]; exact heap_alloc_last W6 _
      have hRc : Hid (Calls Tryz.prog 11 #[.string t] W6 fun e w' => e = .returned (.func (.func 24) #[] #[.pointer (some ⟨nb + 1, 0, none⟩)]) ∧ W7 = w') := by
        have := records_any t W6
        rw [hs6, hW7] at this
        exact this
      have hwW7 : Below w.heap.size w W7 := R5.out.1.2.trans (b57.mono R5.out.1.2.size)
      have hlbn : lb < nb := by rw [← hnb]; exact (Array.getElem?_eq_some_iff.1 R5.out.2.2).1
      have hr0n : w.heap.size < nb := by rw [← hnb]; exact (Array.getElem?_eq_some_iff.1 R5.out.1.1).1
      have hTl : 3 < w.heap.size ∧ 0 < w.heap.size := ⟨wtab_lt hTb.out.1, ctab_lt hTb.out.2⟩
      have hAll : Hid (W5.heap.size = nb ∧ W7.heap.size = nb + 2 ∧ Below W5.heap.size W5 W7 ∧ Nb nb 0 W7 ∧ (lb < nb ∧ w.heap.size < nb) ∧ (3 < w.heap.size ∧ 0 < w.heap.size)) := ⟨hnb, hs7, b57, hN7, ⟨hlbn, hr0n⟩, hTl⟩
      have hsq : Hid (SeqR Fence.wide 6 Tryz.prog 24 #[.pointer (some ⟨nb + 1, 0, none⟩)] encR GR KpR (fun xs => xs.map sr = (rdT t.data.toList).1.map rr) (fun pre => pre.map sr <+: (rdT t.data.toList).1.map rr) 10485766 W7) := records_seq 6 (by omega) t hMM.out.2.2.2.1 (nb + 1) W7 hT7 (hTb.out.1.below hwW7) (hTb.out.2.below hwW7)
      clear hs6 b6 b7 b57 hN7 hT7 hwW7 hlbn hr0n hTl hs7 hTb hi hlt he' hW7
      subst hW6
      have hnn : ∀ W, (binOp .eql 32 (.func (.func 24) #[] #[.pointer (some ⟨nb + 1, 0, none⟩)]) .nilFunc).run Tryz.prog W = .ok (.bool false) W := fun W => nil_seq _ W
      gi_wp2_with (first
        | (refine ⟨trivial, ?_⟩; gi_at_call 9; refine (callsIn_wide.2 (num_any _ _)).mono ?_; rintro e w5 ⟨rfl, rfl⟩)
        | (refine ⟨trivial, ?_⟩; gi_at_call 11; refine (callsIn_wide.2 hRc.out).mono ?_; rintro e w9 ⟨rfl, rfl⟩))
      clear hRc hnb
      refine wpIn_act (fun a0 ha0 => ?_)
      obtain ⟨g5, g7, g57, gN, ⟨glb, gr0⟩, gT⟩ := hAll.out
      have gT7 : 3 < W7.heap.size ∧ 0 < W7.heap.size := by omega
      have gTn : 3 < nb ∧ 0 < nb := by omega
      have gnb : nb < W7.heap.size := by omega
      refine range_r rfl (by omega) (gf := 24) (lb := #[.pointer (some ⟨nb + 1, 0, none⟩)]) (by rw [ha0]; rfl) trivial (enters_of Tryz.func24 (by kernel_rfl) rfl)
        hsq.out kpR_trans (kpR_put gT7) (Below.refl _ _) (fun _ => rfl)
        (GoI W7 nb nl) (GoX W7 nb nl) (str_own (goI_mr gnb)) (fun c => str_own (goX_mr gnb c)) (goI_mr gnb) (fun c => goX_mr gnb c) ⟨Gq.refl _ _, gN, Nat.zero_le _⟩
        (fun pre x B a' W => ∃ q, a' = { tmps := (a0.tmps.setIfInBounds 104 (.agg #[.int .i64 x.1, .string (S x.2.1), .slice x.2.2.1 x.2.2.2.2.length x.2.2.2.1])).setIfInBounds 23 (.pointer (some ⟨q, 0, none⟩)), defers := [] } ∧ W.heap[q]? = some (.cells #[.int .i64 x.1, .string (S x.2.1), .slice x.2.2.1 x.2.2.2.2.length x.2.2.2.1] 36 (0, 0)) ∧ GoI W7 nb nl pre W ∧ GR x B W ∧ (pre ++ [x]).map sr <+: (rdT t.data.toList).1.map rr)
        ?hAx ?assign ?body ?done ?stop
      case hAx =>
        rintro pre x B a' _ W W' row ⟨q, h1, h2, h3, h4, h5⟩ hg hr
        exact ⟨q, h1, own_cells hg hr _ _ _ h2, str_own (goI_mr gnb) _ _ _ _ h3 hg hr, own_typ h4 (fun g cs hk => own_cells hg hr g cs _ hk), h5⟩
      case assign =>
        rintro l pre x W0 W K hI0 hmr hI hG hSp hlen hwl hK
        obtain ⟨W2, hW2⟩ : ∃ W2, W.alloc (.cells #[.int .i64 x.1, .string (S x.2.1), .slice x.2.2.1 x.2.2.2.2.length x.2.2.2.1] 36) = W2 := ⟨_, rfl⟩
        have b2 : Below W.heap.size W W2 := by rw [← hW2]; exact (Below.refl _ _).alloc (Nat.le_refl _) _
        have k1 : W2.heap[W.heap.size]? = some (.cells #[.int .i64 x.1, .string (S x.2.1), .slice x.2.2.1 x.2.2.2.2.length x.2.2.2.1] 36 (0, 0)) := by rw [← hW2]; exact heap_alloc_last W _
        have hk2 := bq_keeps (B := W7.heap.size) ((Bq.refl nb W).below b2) hI.2.1 gTn
        have hK' := hK _ W2 hk2.1 hk2.2 ⟨W.heap.size, rfl, k1, goI_mr gnb _ _ _ hI (Mr.of_below b2), own_typ hG (fun g cs hk => (b2.block g (Array.getElem?_eq_some_iff.1 hk).1).trans hk), hSp⟩
        rw [ha0] at hK' ⊢
        simp only [List.setIfInBounds_toArray, List.set_cons_succ, List.set_cons_zero] at hK'
        have hK2 : Hid _ := hK'
        clear hK hK' hI0 hmr hI hG hSp hlen hwl b2 k1 hk2 ha0 hsq hAll g5 g7 g57 gN glb gr0 gT gT7 gTn gnb
        dsimp only [encR]
        gi_wp2
        exact hK2.out
      case body =>
        rintro l pre x B a' W hl hlr ⟨q, rfl, hq, hI, hG, hSp⟩ hlen
        obtain ⟨z, nm, pa, pc, ps⟩ := x
        have b5 : Below w5.heap.size w5 W := gq_low hI.1 g57 g5
        have hRW : LdRw W M a4 Rs := (R5.out.2.1).below b5
        have cL : W.cell? ⟨lb, 0, none⟩ = some (.slice a4 nl c4) := row1 ((b5.block lb (by omega)).trans R5.out.2.2)
        have cN : W.cell? ⟨nb, 0, none⟩ = some (.int .i64 (pre.length : Int)) := row1 hI.2.1
        obtain ⟨i, hi⟩ : ∃ i, pre.length = i := ⟨_, rfl⟩
        have hile : i ≤ nl := by rw [← hi]; exact hI.2.2
        rw [hi] at cN
        have i0 : (0 : Int) ≤ (i : Int) := Int.natCast_nonneg _
        have i2 : (i : Int) ≤ 1048578 := by omega
        by_cases hlt : i < nl
        · have i1 : (i : Int) < (nl : Int) := Int.ofNat_lt.2 hlt
          have hne : ((i : Int) == (nl : Int)) = false := by rw [beq_eq_false_iff_ne]; omega
          have hiM : i < M.length := by rw [hMM.out.1]; exact hlt
          have hx := pre_at hMM.out.2.2.1 hSp (by rw [hi]; exact hiM)
          have hiR : i < Rs.length := by rw [hRW.2.1]; exact hiM
          obtain ⟨bb, oo, rfl, c0, c1, c2⟩ := rrow_at hRW.1 i hiR
          obtain ⟨m1, m2⟩ := hRW.2.2 i hiR hiM
          have pr := (hRW.1.2 _ (List.getElem_mem hiR)).1
          have hpb := hMM.out.2.1 _ (List.getElem_mem hiM)
          have hx' : sr (z, nm, pa, pc, ps) = rr M[i] := by
            have e : M[pre.length]'(by rw [hi]; exact hiM) = M[i] := by simp only [hi]
            rw [hx, e]
          generalize Rs[i] = y at *
          obtain ⟨z', nm', ra, rc, ps'⟩ := y
          generalize M[i] = r at *
          obtain ⟨rz, rn, rp⟩ := r
          dsimp only [sr, rr, said] at hx' m1 m2 c0 c1 c2 pr hpb
          injection hx' with e1 e2
          injection e2 with e2 e3
          injection m2 with m2 m3
          subst e1 e2 e3 m1 m2 m3
          obtain ⟨N, hN⟩ : ∃ N, S nm' = N := ⟨_, rfl⟩
          obtain ⟨pn, hpn⟩ : ∃ pn, ps'.length = pn := ⟨_, rfl⟩
          obtain ⟨z, hz⟩ : ∃ z : Int, (rz : Int) = z := ⟨_, rfl⟩
          have px : PRow W pa ps' := by
            obtain ⟨a', c', e, _, _, k3⟩ := (show GOwn 46 2 pV W B (.slice pa ps'.length pc) ps' from hG).row pV_len
            injection e with e1 e2 e3
            rw [e1]
            exact k3
          have hSm : Hid (∀ V, Below W.heap.size W V → Calls Tryz.prog 12 #[.agg #[.int .i64 z, .string N, .slice pa pn pc], .agg #[.int .i64 z, .string N, .slice ra pn rc]] V fun e w' => e = .returned (.bool true) ∧ Below V.heap.size V w') := fun V hV => Lr.sameRecord_any z z N ps' pn hpn pa ra pc rc V (by omega) (px.below pV_len hV) (pr.below pV_len hV)
          have d0 : W.cell? ⟨q, 0, none⟩ = some (.int .i64 z) := by rw [cell_of_row _ _ _ _ _ _ hq, ← hz]; rfl
          have d1 : W.cell? ⟨q, 1, none⟩ = some (.string N) := by rw [cell_of_row _ _ _ _ _ _ hq, ← hN]; rfl
          have d2 : W.cell? ⟨q, 2, none⟩ = some (.slice pa pn pc) := by rw [cell_of_row _ _ _ _ _ _ hq, ← hpn]; rfl
          rw [hz] at c0
          rw [hN] at c1
          rw [hpn] at c2
          have hSS : Hid (∀ V, Below W.heap.size W V → (fun V => V.cell? ⟨q, 0, none⟩ = some (.int .i64 z) ∧ V.cell? ⟨q, 1, none⟩ = some (.string N) ∧ V.cell? ⟨q, 2, none⟩ = some (.slice pa pn pc) ∧ V.cell? ⟨lb, 0, none⟩ = some (.slice (some ⟨bb, oo, none⟩) nl c4) ∧ V.cell? ⟨nb, 0, none⟩ = some (.int .i64 (i : Int)) ∧ V.cell? ⟨bb, oo + i * 3, none⟩ = some (.int .i64 z) ∧ V.cell? ⟨bb, oo + i * 3 + 1, none⟩ = some (.string N) ∧ V.cell? ⟨bb, oo + i * 3 + 2, none⟩ = some (.slice ra pn rc)) V) := fun V hV => by
            refine ⟨?_, ?_, ?_, ?_, ?_, ?_, ?_, ?_⟩
            · rw [hV.cell (World.block_lt_of_cell? _ _ d0)]; exact d0
            · rw [hV.cell (World.block_lt_of_cell? _ _ d1)]; exact d1
            · rw [hV.cell (World.block_lt_of_cell? _ _ d2)]; exact d2
            · rw [hV.cell (World.block_lt_of_cell? _ _ cL)]; exact cL
            · rw [hV.cell (World.block_lt_of_cell? _ _ cN)]; exact cN
            · rw [hV.cell (World.block_lt_of_cell? _ _ c0)]; exact c0
            · rw [hV.cell (World.block_lt_of_cell? _ _ c1)]; exact c1
            · rw [hV.cell (World.block_lt_of_cell? _ _ c2)]; exact c2
          have HD : Hid (Below W.heap.size W W.drew) := drewN_below W W.heap.size 1
          have hS0 := hSS.out _ HD.out
          have hNW : Hid (W.heap[nb]? = some (.cells #[.int .i64 (i : Int)] 3 (0, 0))) := by rw [← hi]; exact hI.2.1
          have hfin : Hid (∀ V, Below W.heap.size W V → V.cell? ⟨nb, 0, none⟩ = some (.int .i64 (i : Int)) ∧ V.frozen? ⟨nb, 0, none⟩ = false ∧ (KeepsFrom W7.heap.size W (V.setCell ⟨nb, 0, none⟩ (.int .i64 ((i : Int) + 1))) ∧ KpR W (V.setCell ⟨nb, 0, none⟩ (.int .i64 ((i : Int) + 1))) ∧ GoI W7 nb nl (pre ++ [(z, nm', pa, pc, ps')]) (V.setCell ⟨nb, 0, none⟩ (.int .i64 ((i : Int) + 1))))) := fun V hV => by
            have hbq : Bq nb W (V.setCell ⟨nb, 0, none⟩ (.int .i64 ((i : Int) + 1))) := ((Bq.refl nb W).below hV).set _
            have hnV : V.heap[nb]? = some (.cells #[.int .i64 (i : Int)] 3 (0, 0)) := (hV.block nb (Array.getElem?_eq_some_iff.1 hNW.out).1).trans hNW.out
            have hk := bq_keeps (B := W7.heap.size) hbq hI.2.1 gTn
            refine ⟨row1 hnV, Go.frozen_of_row _ _ _ _ _ hnV, hk.1, hk.2, gq_bq hI.1 hbq, ?_, by rw [List.length_append, hi]; simp; omega⟩
            have := Go.heap_setCell_same V nb 0 _ _ (.int .i64 ((i : Int) + 1)) hnV
            unfold Nb
            rw [List.length_append, hi]
            exact this
          rw [ha0]
          simp only [List.setIfInBounds_toArray, List.set_cons_succ, List.set_cons_zero]
          rw [hN, hpn, hz]
          clear hI hG hSp hlen hl hlr hq b5 hRW hile hiM hx hiR pr hpb px hN hpn hz hi hNW ha0 hsq hAll g5 g7 g57 gN glb gr0 gT gT7 gTn gnb d0 d1 d2 c0 c1 c2
          gi_wp2
          refine RgN.n_region (fun _ => true) (fun V => V.cell? ⟨q, 0, none⟩ = some (.int .i64 z) ∧ V.cell? ⟨q, 1, none⟩ = some (.string N) ∧ V.cell? ⟨q, 2, none⟩ = some (.slice pa pn pc) ∧ V.cell? ⟨lb, 0, none⟩ = some (.slice (some ⟨bb, oo, none⟩) nl c4) ∧ V.cell? ⟨nb, 0, none⟩ = some (.int .i64 (i : Int)) ∧ V.cell? ⟨bb, oo + i * 3, none⟩ = some (.int .i64 z) ∧ V.cell? ⟨bb, oo + i * 3 + 1, none⟩ = some (.string N) ∧ V.cell? ⟨bb, oo + i * 3 + 2, none⟩ = some (.slice ra pn rc)) (by kernel_rfl) (by kernel_rfl) ?_
          clear cL cN
          refine RgN.n_take 0 ?va0 (by simp only [List.getElem?_toArray, List.getElem?_cons_zero]; exact rfl) (by kernel_rfl) (by kernel_rfl) (by kernel_rfl) (RgN.safe_all _ _ _) (by rfl) hS0 ?ya0 ?ra0
          case ya0 =>
            intro w' hS
            obtain ⟨h0, h1, h2, h3, h4, h5, h6, h7⟩ := hS
            go_simp
            try with_reducible rfl
          case ra0 =>
          simp only [Act.put, List.setIfInBounds_toArray, List.set_cons_zero, List.set_cons_succ]
          refine RgN.n_take 1 ?va1 (by simp only [List.getElem?_toArray, List.getElem?_cons_zero, List.getElem?_cons_succ]; exact rfl) (by kernel_rfl) (by kernel_rfl) (by kernel_rfl) (RgN.safe_all _ _ _) (by rfl) hS0 ?ya1 ?ra1
          case ya1 =>
            intro w' hS
            obtain ⟨h0, h1, h2, h3, h4, h5, h6, h7⟩ := hS
            go_simp
            try with_reducible rfl
          case ra1 =>
          simp only [Act.put, List.setIfInBounds_toArray, List.set_cons_zero, List.set_cons_succ]
          refine RgN.n_take 2 ?va2 (by simp only [List.getElem?_toArray, List.getElem?_cons_zero, List.getElem?_cons_succ]; exact rfl) (by kernel_rfl) (by kernel_rfl) (by kernel_rfl) (RgN.safe_all _ _ _) (by rfl) hS0 ?ya2 ?ra2
          case ya2 =>
            intro w' hS
            obtain ⟨h0, h1, h2, h3, h4, h5, h6, h7⟩ := hS
            go_simp
            try with_reducible rfl
          case ra2 =>
          simp only [Act.put, List.setIfInBounds_toArray, List.set_cons_zero, List.set_cons_succ]
          refine RgN.n_take 3 ?va3 (by simp only [List.getElem?_toArray, List.getElem?_cons_zero, List.getElem?_cons_succ]; exact rfl) (by kernel_rfl) (by kernel_rfl) (by kernel_rfl) (RgN.safe_all _ _ _) (by rfl) hS0 ?ya3 ?ra3
          case ya3 =>
            intro w' hS
            obtain ⟨h0, h1, h2, h3, h4, h5, h6, h7⟩ := hS
            go_simp
            try with_reducible rfl
          case ra3 =>
          simp only [Act.put, List.setIfInBounds_toArray, List.set_cons_zero, List.set_cons_succ]
          refine RgN.n_take 4 ?va4 (by simp only [List.getElem?_toArray, List.getElem?_cons_zero, List.getElem?_cons_succ]; exact rfl) (by kernel_rfl) (by kernel_rfl) (by kernel_rfl) (RgN.safe_all _ _ _) (by rfl) hS0 ?ya4 ?ra4
          case ya4 =>
            intro w' hS
            obtain ⟨h0, h1, h2, h3, h4, h5, h6, h7⟩ := hS
            go_simp
            try with_reducible rfl
          case ra4 =>
          simp only [Act.put, List.setIfInBounds_toArray, List.set_cons_zero, List.set_cons_succ]
          refine RgN.n_one 5 (by kernel_rfl) (by simp only [List.getElem?_toArray, List.getElem?_cons_zero, List.getElem?_cons_succ]; exact rfl) (fun K hK => ?_)
          go_simp
          refine (hSm.out _ HD.out).mono ?_
          rintro e W3 ⟨rfl, hb3⟩
          have H3 : Hid (Below W.heap.size W W3) := HD.out.trans (hb3.mono HD.out.size)
          have hS1 := hSS.out W3 H3.out
          refine hK.out _ _ (fun _ => hS1) ?_
          clear hK K hb3
          try simp only [Act.put, List.setIfInBounds_toArray, List.set_cons_zero, List.set_cons_succ]
          refine RgN.n_take 6 ?vb6 (by simp only [List.getElem?_toArray, List.getElem?_cons_zero, List.getElem?_cons_succ]; exact rfl) (by kernel_rfl) (by kernel_rfl) (by kernel_rfl) (RgN.safe_all _ _ _) (by rfl) hS1 ?yb6 ?rb6
          case yb6 =>
            intro w' hS
            obtain ⟨h0, h1, h2, h3, h4, h5, h6, h7⟩ := hS
            go_simp
            try with_reducible rfl
          case rb6 =>
          simp only [Act.put, List.setIfInBounds_toArray, List.set_cons_zero, List.set_cons_succ]
          refine RgN.n_done (by kernel_rfl) ?_ _
          gi_wp2
          have HE : Hid (Below W.heap.size W W3.drew) := H3.out.trans ((drewN_below W3 W3.heap.size 1).mono H3.out.size)
          have hS2 := hSS.out _ HE.out
          refine RgN.n_region (fun _ => true) (fun V => V.cell? ⟨q, 0, none⟩ = some (.int .i64 z) ∧ V.cell? ⟨q, 1, none⟩ = some (.string N) ∧ V.cell? ⟨q, 2, none⟩ = some (.slice pa pn pc) ∧ V.cell? ⟨lb, 0, none⟩ = some (.slice (some ⟨bb, oo, none⟩) nl c4) ∧ V.cell? ⟨nb, 0, none⟩ = some (.int .i64 (i : Int)) ∧ V.cell? ⟨bb, oo + i * 3, none⟩ = some (.int .i64 z) ∧ V.cell? ⟨bb, oo + i * 3 + 1, none⟩ = some (.string N) ∧ V.cell? ⟨bb, oo + i * 3 + 2, none⟩ = some (.slice ra pn rc)) (by kernel_rfl) (by kernel_rfl) ?_
          clear hS0 hS1
          refine RgN.n_take 0 ?vc0 (by simp only [List.getElem?_toArray, List.getElem?_cons_zero]; exact rfl) (by kernel_rfl) (by kernel_rfl) (by kernel_rfl) (RgN.safe_all _ _ _) (by rfl) hS2 ?yc0 ?rc0
          case yc0 =>
            intro w' hS
            obtain ⟨h0, h1, h2, h3, h4, h5, h6, h7⟩ := hS
            go_simp
            try with_reducible rfl
          case rc0 =>
          simp only [Act.put, List.setIfInBounds_toArray, List.set_cons_zero, List.set_cons_succ]
          refine RgN.n_take 1 ?vc1 (by simp only [List.getElem?_toArray, List.getElem?_cons_zero, List.getElem?_cons_succ]; exact rfl) (by kernel_rfl) (by kernel_rfl) (by kernel_rfl) (RgN.safe_all _ _ _) (by rfl) hS2 ?yc1 ?rc1
          case yc1 =>
            intro w' hS
            obtain ⟨h0, h1, h2, h3, h4, h5, h6, h7⟩ := hS
            go_simp
            try with_reducible rfl
          case rc1 =>
          simp only [Act.put, List.setIfInBounds_toArray, List.set_cons_zero, List.set_cons_succ]
          refine RgN.n_take 2 ?vc2 (by simp only [List.getElem?_toArray, List.getElem?_cons_zero, List.getElem?_cons_succ]; exact rfl) (by kernel_rfl) (by kernel_rfl) (by kernel_rfl) (RgN.safe_all _ _ _) (by rfl) hS2 ?yc2 ?rc2
          case yc2 =>
            intro w' hS
            obtain ⟨h0, h1, h2, h3, h4, h5, h6, h7⟩ := hS
            go_simp
            try with_reducible rfl
          case rc2 =>
          simp only [Act.put, List.setIfInBounds_toArray, List.set_cons_zero, List.set_cons_succ]
          refine RgN.n_take 3 ?vc3 (by simp only [List.getElem?_toArray, List.getElem?_cons_zero, List.getElem?_cons_succ]; exact rfl) (by kernel_rfl) (by kernel_rfl) (by kernel_rfl) (RgN.safe_all _ _ _) (by rfl) hS2 ?yc3 ?rc3
          case yc3 =>
            intro w' hS
            obtain ⟨h0, h1, h2, h3, h4, h5, h6, h7⟩ := hS
            go_simp
            try with_reducible rfl
          case rc3 =>
          simp only [Act.put, List.setIfInBounds_toArray, List.set_cons_zero, List.set_cons_succ]
          refine RgN.n_take 4 ?vc4 (by simp only [List.getElem?_toArray, List.getElem?_cons_zero, List.getElem?_cons_succ]; exact rfl) (by kernel_rfl) (by kernel_rfl) (by kernel_rfl) (RgN.safe_all _ _ _) (by rfl) hS2 ?yc4 ?rc4
          case yc4 =>
            intro w' hS
            obtain ⟨h0, h1, h2, h3, h4, h5, h6, h7⟩ := hS
            go_simp
            try with_reducible rfl
          case rc4 =>
          simp only [Act.put, List.setIfInBounds_toArray, List.set_cons_zero, List.set_cons_succ]
          refine RgN.n_take 5 ?vc5 (by simp only [List.getElem?_toArray, List.getElem?_cons_zero, List.getElem?_cons_succ]; exact rfl) (by kernel_rfl) (by kernel_rfl) (by kernel_rfl) (RgN.safe_all _ _ _) (by rfl) hS2 ?yc5 ?rc5
          case yc5 =>
            intro w' hS
            obtain ⟨h0, h1, h2, h3, h4, h5, h6, h7⟩ := hS
            go_simp
            try with_reducible rfl
          case rc5 =>
          simp only [Act.put, List.setIfInBounds_toArray, List.set_cons_zero, List.set_cons_succ]
          refine RgN.n_take 6 ?vc6 (by simp only [List.getElem?_toArray, List.getElem?_cons_zero, List.getElem?_cons_succ]; exact rfl) (by kernel_rfl) (by kernel_rfl) (by kernel_rfl) (RgN.safe_all _ _ _) (by rfl) hS2 ?yc6 ?rc6
          case yc6 =>
            intro w' hS
            obtain ⟨h0, h1, h2, h3, h4, h5, h6, h7⟩ := hS
            go_simp
            try with_reducible rfl
          case rc6 =>
          simp only [Act.put, List.setIfInBounds_toArray, List.set_cons_zero, List.set_cons_succ]
          refine RgN.n_take 7 ?vc7 (by simp only [List.getElem?_toArray, List.getElem?_cons_zero, List.getElem?_cons_succ]; exact rfl) (by kernel_rfl) (by kernel_rfl) (by kernel_rfl) (RgN.safe_all _ _ _) (by rfl) hS2 ?yc7 ?rc7
          case yc7 =>
            intro w' hS
            obtain ⟨h0, h1, h2, h3, h4, h5, h6, h7⟩ := hS
            go_simp
            try with_reducible rfl
          case rc7 =>
          simp only [Act.put, List.setIfInBounds_toArray, List.set_cons_zero, List.set_cons_succ]
          refine RgN.n_take 8 ?vc8 (by simp only [List.getElem?_toArray, List.getElem?_cons_zero, List.getElem?_cons_succ]; exact rfl) (by kernel_rfl) (by kernel_rfl) (by kernel_rfl) (RgN.safe_all _ _ _) (by rfl) hS2 ?yc8 ?rc8
          case yc8 =>
            intro w' hS
            obtain ⟨h0, h1, h2, h3, h4, h5, h6, h7⟩ := hS
            go_simp
            try with_reducible rfl
          case rc8 =>
          simp only [Act.put, List.setIfInBounds_toArray, List.set_cons_zero, List.set_cons_succ]
          refine RgN.n_take 9 ?vc9 (by simp only [List.getElem?_toArray, List.getElem?_cons_zero, List.getElem?_cons_succ]; exact rfl) (by kernel_rfl) (by kernel_rfl) (by kernel_rfl) (RgN.safe_all _ _ _) (by rfl) hS2 ?yc9 ?rc9
          case yc9 =>
            intro w' hS
            obtain ⟨h0, h1, h2, h3, h4, h5, h6, h7⟩ := hS
            go_simp
            try with_reducible rfl
          case rc9 =>
          simp only [Act.put, List.setIfInBounds_toArray, List.set_cons_zero, List.set_cons_succ]
          refine RgN.n_take 10 ?vc10 (by simp only [List.getElem?_toArray, List.getElem?_cons_zero, List.getElem?_cons_succ]; exact rfl) (by kernel_rfl) (by kernel_rfl) (by kernel_rfl) (RgN.safe_all _ _ _) (by rfl) hS2 ?yc10 ?rc10
          case yc10 =>
            intro w' hS
            obtain ⟨h0, h1, h2, h3, h4, h5, h6, h7⟩ := hS
            go_simp
            try with_reducible rfl
          case rc10 =>
          simp only [Act.put, List.setIfInBounds_toArray, List.set_cons_zero, List.set_cons_succ]
          refine RgN.n_take 11 ?vc11 (by simp only [List.getElem?_toArray, List.getElem?_cons_zero, List.getElem?_cons_succ]; exact rfl) (by kernel_rfl) (by kernel_rfl) (by kernel_rfl) (RgN.safe_all _ _ _) (by rfl) hS2 ?yc11 ?rc11
          case yc11 =>
            intro w' hS
            obtain ⟨h0, h1, h2, h3, h4, h5, h6, h7⟩ := hS
            go_simp
            try with_reducible rfl
          case rc11 =>
          simp only [Act.put, List.setIfInBounds_toArray, List.set_cons_zero, List.set_cons_succ]
          refine RgN.n_done (by kernel_rfl) ?_ _
          obtain ⟨f1, f2, f3⟩ := hfin.out _ HE.out
          have f3' : Hid _ := f3
          clear hS2 f3 hfin hSS hSm HD HE H3
          gi_wp2
          exact f3'.out
        · have e : i = nl := by omega
          have heq : ((i : Int) == (nl : Int)) = true := by rw [beq_iff_eq]; omega
          have hfin : Hid (KeepsFrom W7.heap.size W W ∧ KpR W W ∧ GoX W7 nb nl (.exit 2) (pre ++ [(z, nm, pa, pc, ps)]) W) := by
            have hk := bq_keeps (B := W7.heap.size) (Bq.refl nb W) hI.2.1 gTn
            refine ⟨hk.1, hk.2, rfl, hI.1, ?_⟩
            have := hI.2.1
            rw [hi, e] at this
            exact this
          rw [ha0]
          simp only [List.setIfInBounds_toArray, List.set_cons_succ, List.set_cons_zero]
          clear hI hG hSp hlen hl hlr hq b5 hRW hile hi e hlt ha0 hsq hAll g5 g7 g57 gN glb gr0 gT gT7 gTn gnb
          gi_wp2
          exact hfin.out
      case done =>
        rintro D xs W hD hS hI hK
        have hxl : xs.length = nl := by
          have h1 := congrArg List.length hS
          rw [List.length_map, List.length_map, hMM.out.2.2.1, List.length_append, hMM.out.1] at h1
          have := hI.2.2
          omega
        have b5 : Below w5.heap.size w5 W := gq_low hI.1 g57 g5
        have hRb : Rb w W := R5.out.1.below b5
        have cL : W.cell? ⟨lb, 0, none⟩ = some (.slice a4 nl c4) := row1 ((b5.block lb (by omega)).trans R5.out.2.2)
        have cN : W.cell? ⟨nb, 0, none⟩ = some (.int .i64 (nl : Int)) := by rw [← hxl]; exact row1 hI.2.1
        have heq : ((nl : Int) == (nl : Int)) = true := by simp
        obtain ⟨cR, fR⟩ := hRb.cell
        have hfin : Hid _ := end_facts hRb (show w.heap.size < D by omega) hK
        rw [ha0]
        clear hI hS hK hD hxl b5 hRb ha0 hsq hAll g5 g7 g57 gN glb gr0 gT gT7 gTn gnb
        gi_wp2
        refine ⟨by simp, .inl ⟨_, _, rfl, run_takeDeferred hfin.out.1, ?_⟩⟩
        exact ⟨_, results_b rfl _ _ _ _ rfl hfin.out.2.1, rfl, hfin.out.2.2⟩
      case stop =>
        rintro D c pre W hD hSp ⟨rfl, hGq, hNb⟩ hK
        have b5 : Below w5.heap.size w5 W := gq_low hGq g57 g5
        have hRb : Rb w W := R5.out.1.below b5
        have cL : W.cell? ⟨lb, 0, none⟩ = some (.slice a4 nl c4) := row1 ((b5.block lb (by omega)).trans R5.out.2.2)
        have cN : W.cell? ⟨nb, 0, none⟩ = some (.int .i64 (nl : Int)) := row1 hNb
        have heq : ((nl : Int) == (nl : Int)) = true := by simp
        obtain ⟨cR, fR⟩ := hRb.cell
        have hfin : Hid _ := end_facts hRb (show w.heap.size < D by omega) hK
        rw [ha0]
        clear hGq hNb hSp hK hD b5 hRb ha0 hsq hAll g5 g7 g57 gN glb gr0 gT gT7 gTn gnb
        gi_wp2
        refine ⟨by simp, .inl ⟨_, _, rfl, run_takeDeferred hfin.out.1, ?_⟩⟩
        exact ⟨_, results_b rfl _ _ _ _ rfl hfin.out.2.1, rfl, hfin.out.2.2⟩
theorem ldifGoesOn_walk (s mo : ByteArray) (hs : s.size ≤ 1048576) (hmo : mo.size ≤ 1048576) (w : World) (hWt : WTab w) (hCt : ChgTab w) :
    Calls Tryz.prog 3 #[.string s, .string mo] w fun e w' => e = .returned (.bool true) ∧ Below w.heap.size w w' := by
  obtain ⟨T1, hT1⟩ : ∃ T1, s ++ ({ data := #[10, 10] } : ByteArray) = T1 := ⟨_, rfl⟩
  obtain ⟨t, ht⟩ : ∃ t, T1 ++ mo = t := ⟨_, rfl⟩
  have z1 : T1.size = s.size + 2 := by rw [← hT1, ByteArray.size_append]; rfl
  have z2 : t.size = T1.size + mo.size := by rw [← ht, ByteArray.size_append]
  have htl : t.data.toList = s.data.toList ++ 10 :: 10 :: mo.data.toList := by rw [← ht, ← hT1, app_l, app_l]; simp
  have y1 : ¬ 9223372036854775807 < s.size + 2 := by omega
  have y2 : ¬ 9223372036854775807 < T1.size + mo.size := by omega
  obtain ⟨n1, hn1⟩ : ∃ m, (outL (phys s.data.toList)).length = m := ⟨_, rfl⟩
  obtain ⟨n0, hn0⟩ : ∃ m, (outL (phys t.data.toList)).length = m := ⟨_, rfl⟩
  have hU : ∀ W, Calls Tryz.prog 8 #[.string s] W fun e w' => ∃ a c, e = .returned (.tuple #[.slice a n1 c, .int .i64 ((outE (phys s.data.toList)).1 : Int), .int .i64 ((outE (phys s.data.toList)).2 : Int)]) ∧ Below W.heap.size W w' := fun W => by
    refine (linesR_any s (by omega) _ rfl n1 hn1 W).mono ?_
    rintro e w' ⟨a, c, rfl, _, hb⟩
    exact ⟨a, c, rfl, hb⟩
  have hV : ∀ W, Calls Tryz.prog 8 #[.string t] W fun e w' => ∃ a c, e = .returned (.tuple #[.slice a n0 c, .int .i64 ((outE (phys t.data.toList)).1 : Int), .int .i64 ((outE (phys t.data.toList)).2 : Int)]) ∧ Below W.heap.size W w' := fun W => by
    refine (linesR_any t (by omega) _ rfl n0 hn0 W).mono ?_
    rintro e w' ⟨a, c, rfl, _, hb⟩
    exact ⟨a, c, rfl, hb⟩
  have er : ∀ l p, ferr [] l = some p → (((outE l).1 : Int) != 0) = true := fun l p h => by
    have o2 : outE l = p := by unfold outE; rw [h]
    rw [o2, bne_iff_ne]
    have := ferr_val _ _ _ h
    omega
  cases hf0 : ferr [] (phys t.data.toList) with
  | some p => exact go_none s mo t T1 hT1 ht y1 y2 n0 n1 _ _ _ _ hU hV (.inl (er _ _ hf0)) w hWt hCt
  | none =>
    have o0 : outE (phys t.data.toList) = (0, 0) := by unfold outE; rw [hf0]
    cases hf1 : ferr [] (phys s.data.toList) with
    | some p => exact go_none s mo t T1 hT1 ht y1 y2 n0 n1 _ _ _ _ hU hV (.inr ⟨by rw [o0]; rfl, er _ _ hf1⟩) w hWt hCt
    | none =>
      have o1 : outE (phys s.data.toList) = (0, 0) := by unfold outE; rw [hf1]
      rw [o0] at hV
      rw [o1] at hU
      rw [htl] at hf0
      obtain ⟨k1, k2⟩ := rdT_on s.data.toList mo.data.toList hf1 hf0
      rw [← htl] at k1 k2
      by_cases he : (rdT s.data.toList).2.1 = 0
      · obtain ⟨more, hmore⟩ := k1 he
        have hld : ldR s.data.toList = (rdT s.data.toList).1 := by unfold ldR; rw [if_pos he]
        have z3 := ldR_size s.data.toList
        rw [size_l] at z3
        have he2 := rdT_zero he
        refine go_main s mo t hs (by omega) T1 hT1 ht y1 y2 n0 n1 _ _ hU hV w (ldR s.data.toList) more _ rfl (by omega) (fun r hr => by have := (z3.2 r hr).2; omega) (fun W hW => ?_) (by rw [hld]; exact hmore) hWt hCt
        have h := loads_any s (by omega) W (hWt.below hW) (hCt.below hW) _ rfl
        rw [he, he2] at h
        exact h
      · refine go_bad s mo t hs T1 hT1 ht y1 y2 n0 n1 _ _ hU hV w (rdT s.data.toList).2.1 (rdT s.data.toList).2.2 _ rfl (fun W hW => ?_) (by rw [bne_iff_ne]; omega) ?_ hWt hCt
        · refine (loads_any s (by omega) W (hWt.below hW) (hCt.below hW) _ rfl).mono ?_
          rintro e w' ⟨a, c, Rs, rfl, _, hb⟩
          exact ⟨a, _, c, rfl, hb⟩
        · by_cases hat : (rdT s.data.toList).2.2 = (phys s.data.toList).length + 1
          · exact .inl hat
          · refine .inr ⟨hat, fun W hW => ?_⟩
            refine (loads_any t (by omega) W (hWt.below hW) (hCt.below hW) _ rfl).mono ?_
            rintro e w' ⟨a, c, Rs, rfl, _, hb⟩
            rw [k2 he hat]
            exact ⟨a, _, c, rfl, hb⟩
end Rd
open Go.RowKit
theorem ldifGoesOn_w (s mo : ByteArray) (w : World) (hs : s.size ≤ 1048576) (hmo : mo.size ≤ 1048576) (hWt : WTab w) (hCt : Lr.ChgTab w) :
    Calls Tryz.prog 3 #[.string s, .string mo] w fun e w' => e = .returned (.bool true) ∧ Below w.heap.size w w' := Rd.ldifGoesOn_walk s mo hs hmo w hWt hCt
end Go.Proofs.YtfpphhbpoaobfaaGreatDoor
