import Derived.Test.YtejgkiaecjhbgaaPgSkp
namespace Go.Proofs.Ytejgkiaecjhbgaa
open Go.RowKit Go.Sort Go.Lib
open PgMath (Inc setOf cnt)
set_option linter.unusedVariables false

theorem here_nil (lo b : Nat) (w : World) (h : Cur w lo b []) : Calls Try.prog 8 #[.pointer (some ⟨b, 0, none⟩)] w fun e w' => e = .returned (.tuple #[.int .i64 0, .bool false]) ∧ w' = w := here_any lo b [] w h
theorem here_cons (lo b : Nat) (v : Int) (t : List Int) (w : World) (h : Cur w lo b (v :: t)) : Calls Try.prog 8 #[.pointer (some ⟨b, 0, none⟩)] w fun e w' => e = .returned (.tuple #[.int .i64 v, .bool true]) ∧ w' = w := here_any lo b (v :: t) w h
theorem ownI_but {w w' : World} {b B : Nat} {v : Value} {l : List Int} (h : OwnI w B v l) (hb : ButB b w w') (hB : b < B) : OwnI w' B v l := by
  rcases h with ⟨h1, ⟨rfl, h2⟩ | ⟨g, cap, cur, rfl, h3, h4, h5⟩⟩
  · exact ⟨h1, Or.inl ⟨rfl, h2⟩⟩
  · exact ⟨h1, Or.inr ⟨g, cap, cur, rfl, h3, by rw [hb.2.2.2.2 g (by omega)]; exact h4, h5⟩⟩
theorem Cur.but {w w' : World} {lo b d : Nat} {l : List Int} (h : Cur w lo b l) (hb : ButB d w w') (hlo : lo ≤ b) (hd : d < lo ∨ b < d) : Cur w' lo b l := h.same (fun k h1 h2 => hb.2.2.2.2 k (by omega)) hlo
theorem Cur.keep {w w' : World} {lo b : Nat} {l : List Int} (h : Cur w lo b l) (hb : Below w.heap.size w w') (hlo : lo ≤ b) : Cur w' lo b l := h.same (fun k h1 h2 => hb.block k (by have := h.lt; omega)) hlo
theorem build22 (W : World) : (Instr.buildSlice 22 2 #[(0, .int .i64 2), (1, .int .i64 2)]).run Try.prog W = .ok (.slice (some ⟨W.heap.size, 0, none⟩) 2 2) (W.alloc (.cells #[.int .i64 2, .int .i64 2] 2)) := by
  obtain ⟨i0, hi, hz0, hz1, hz2⟩ := info_parts info_i64
  exact run_buildSlice W _ _ 2 _ _ i0 _ Try.underlying22 hi hz0 (by rw [hz1]; decide) (by rw [hz1]; decide) (by rw [hz1]; kernel_rfl)
theorem row22 (W : World) : NRow (W.alloc (.cells #[.int .i64 2, .int .i64 2] 2)) (some ⟨W.heap.size, 0, none⟩) [2, 2] := by
  have g0 : (W.alloc (.cells #[.int .i64 2, .int .i64 2] 2)).heap[W.heap.size]? = some (.cells #[.int .i64 2, .int .i64 2] 2 (0, 0)) := heap_alloc_new _ _
  generalize W.alloc (.cells #[.int .i64 2, .int .i64 2] 2) = V at g0
  intro i hi
  refine ⟨W.heap.size, 0, rfl, ?_⟩
  match i, hi with
  | 0, _ => simp [World.cell?, g0]
  | 1, _ => simp [World.cell?, g0]

/-- How the two cursors and the set lie. -/
def Lay (w : World) (s0 s1 s2 bc bd : Nat) (a3 : Option Addr) (c3 : Nat) (S L M : List Int) (wr : World) : Prop :=
  Cur wr s0 bc L ∧ Cur wr s1 bd M ∧ OwnI wr s2 (.slice a3 S.length c3) S ∧ Below s0 w wr ∧ (s0 ≤ bc ∧ bc < s1 ∧ s1 ≤ bd ∧ bd < s2)
theorem Lay.setC {w : World} {s0 s1 s2 bc bd : Nat} {a3 : Option Addr} {c3 : Nat} {S L M L' : List Int} {wr w' : World} (h : Lay w s0 s1 s2 bc bd a3 c3 S L M wr) (hc : Cur w' s0 bc L') (hb : ButB bc wr w') : Lay w s0 s1 s2 bc bd a3 c3 S L' M w' := by
  obtain ⟨h1, h2, h3, h4, h5, h6, h7, h8⟩ := h
  exact ⟨hc, h2.but hb h7 (Or.inl h6), ownI_but h3 hb (by omega), h4.trans (hb.below h5), h5, h6, h7, h8⟩
theorem Lay.setD {w : World} {s0 s1 s2 bc bd : Nat} {a3 : Option Addr} {c3 : Nat} {S L M M' : List Int} {wr w' : World} (h : Lay w s0 s1 s2 bc bd a3 c3 S L M wr) (hc : Cur w' s1 bd M') (hb : ButB bd wr w') : Lay w s0 s1 s2 bc bd a3 c3 S L M' w' := by
  obtain ⟨h1, h2, h3, h4, h5, h6, h7, h8⟩ := h
  exact ⟨h1.but hb h5 (Or.inr (by omega)), hc, ownI_but h3 hb (by omega), h4.trans (hb.below (by omega)), h5, h6, h7, h8⟩

set_option maxRecDepth 100000 in
set_option maxHeartbeats 1000000 in
theorem skips_walk (a : Option Addr) (l : List Int) (c : Nat) (x y : Int) (w : World) (hr : NRow w a l) (hl : l.length * 8 ≤ 140737488355328) :
    Calls Try.prog 3 #[.slice a l.length c, .int .i64 x, .int .i64 y] w fun e w' => e = .returned (.bool true) ∧ Below w.heap.size w w' := by
  have hr' : Hid (NRow w a l ∧ l.length * 8 ≤ 140737488355328) := ⟨hr, hl⟩
  clear hr hl
  have hbs := build22
  go_enter Try.func3, Try.ntmps3
  go_upto_region 6 with (first
    | (go_at_call 4; refine (new_any a l c w1 (hr'.out.1.below hb1) hr'.out.2).mono ?_; rintro e w2 ⟨bd, rfl, hd2, hlo2, hb2⟩)
    | (go_at_call 4; refine (new_any a l c w hr'.out.1 hr'.out.2).mono ?_; rintro e w1 ⟨bc, rfl, hc1, hlo1, hb1⟩)
    | (go_at_call 5; refine (of_any a l c w2 ((hr'.out.1.below hb1).below hb2) hr'.out.2).mono ?_; rintro e w3 ⟨v3, rfl, hO3, hb3⟩; obtain ⟨a3, n3, c3, rfl⟩ := ownI_slice hO3; obtain ⟨hr3, rfl⟩ := ownI_row hO3; clear hr3))
  have hL3 : Hid (Lay w w.heap.size w1.heap.size w2.heap.size bc bd a3 c3 (setOf l) (setOf l) (setOf l) w3) := ⟨(hc1.keep hb2 hlo1).keep hb3 hlo1, hd2.keep hb3 hlo2, hO3, (hb1.trans (hb2.mono hb1.size)).trans (hb3.mono (Nat.le_trans hb1.size hb2.size)), hlo1, hc1.lt, hlo2, hd2.lt⟩
  have hs : Hid (Inc (setOf l) ∧ (setOf l).length ≤ 140737488355328) := ⟨PgMath.setOf_inc l, by have := PgMath.setOf_len l; have := hr'.out.2; omega⟩
  have hs01 : Hid (w.heap.size ≤ w1.heap.size ∧ w1.heap.size ≤ w2.heap.size ∧ w2.heap.size ≤ w3.heap.size) := ⟨hb1.size, hb2.size, hb3.size⟩
  generalize hs2 : w2.heap.size = s2 at *
  generalize hs1 : w1.heap.size = s1 at *
  have hS : Hid (setOf l = setOf l) := rfl
  generalize hSL : setOf l = S at *
  have hSL' : Hid (setOf l = S) := hSL
  clear hc1 hlo1 hb1 hd2 hlo2 hb2 hO3 hb3 hSL hs1 hs2 hS
  obtain ⟨n, hn⟩ : ∃ n, S.length = n := ⟨_, rfl⟩
  have hn' : Hid (S.length = n) := hn
  have hLf := left_any w.heap.size bc S w3 hL3.out.1
  rw [hn] at hLf ⊢
  clear hn
  go_wp2_with (first
    | (go_at_call 6; refine hLf.mono ?_; rintro e w3 ⟨rfl, rfl⟩)
    | (go_at_call 5; refine (of_any (some ⟨w3.heap.size, 0, none⟩) [2, 2] 2 _ (row22 w3) (by decide)).mono ?_; rw [PgMath.two_two]; rintro e w4 ⟨v4, rfl, hO4, hb4⟩; obtain ⟨a4, n4, c4, rfl⟩ := ownI_slice hO4; obtain ⟨hr4, rfl⟩ := ownI_row hO4; clear hr4))
  have hL4 : Hid (Lay w w.heap.size s1 s2 bc bd a3 c3 S S S w4) := by
    obtain ⟨g1, g2, g3, g4, g5⟩ := hL3.out
    have hb : Below w3.heap.size w3 w4 := ((Below.refl _ _).alloc (Nat.le_refl _) _).trans (hb4.mono (by simp))
    exact ⟨g1.keep hb g5.1, g2.keep hb g5.2.2.1, ownI_below g3 hb, g4.trans (hb.mono g4.size), g5⟩
  clear hL3 hLf hb4 hO4
  go_loopw [1, 10] (fun xv kv wr => ∃ (k : Nat) (z : Int) (L : List Int), k ≤ 2 ∧ kv = .int .i64 (k : Int) ∧ xv = .int .i64 z ∧ Hid (Lay w w.heap.size s1 s2 bc bd a3 c3 S L L wr ∧ Inc L ∧ L.length ≤ n)) (fun _ kv _ => 2 - (intOf kv).toNat)
  case atStart => exact ⟨0, x, S, by omega, rfl, rfl, hL4.out, hs.out.1, Nat.le_of_eq hn'.out⟩
  case round =>
    obtain ⟨k, z, L, hk, rfl, rfl, hR⟩ := hrel
    have hnb : (n : Int) ≤ 140737488355328 := by have := hs.out.2; rw [hn'.out] at this; omega
    by_cases hk2 : k < 2
    · have k1 : (k : Int) < 2 := by omega
      have hk2' : Hid (k < 2) := hk2
      have hSk : Hid (Calls Try.prog 7 #[.pointer (some ⟨bc, 0, none⟩), .int .i64 z] wr fun e w' => e = .returned (.tuple #[]) ∧ Lay w w.heap.size s1 s2 bc bd a3 c3 S (L.drop (cnt L z)) L w') :=
        (skip_any w.heap.size bc L z wr hR.out.1.1 hR.out.2.1).mono (fun e w' ⟨h1, h2, h3⟩ => ⟨h1, hR.out.1.setC h2 h3⟩)
      have hL : Hid (Inc L ∧ L.length ≤ n) := hR.out.2
      clear hR hk hk2
      go_wp2_with (go_at_call 7; refine hSk.out.mono ?_; rintro e w5 ⟨rfl, hR5⟩)
      have hR5' : Hid (Lay w w.heap.size s1 s2 bc bd a3 c3 S (L.drop (cnt L z)) L w5) := hR5
      clear hR5 hSk
      go_loopw [11] (fun iv wr => ∃ i : Nat, i ≤ L.length ∧ iv = .int .i64 (i : Int) ∧ Hid (Lay w w.heap.size s1 s2 bc bd a3 c3 S (L.drop (cnt L z)) (L.drop i) wr ∧ ∀ j (h : j < L.length), j < i → L[j] < z)) (fun iv _ => L.length - (intOf iv).toNat)
      case atStart => exact ⟨0, Nat.zero_le _, rfl, by rw [List.drop_zero]; exact hR5'.out, fun j h hj => by omega⟩
      case round =>
        obtain ⟨i, hi, rfl, hQ⟩ := hrel
        have i1 : (i : Int) ≤ (n : Int) := by have := hL.out.2; omega
        have hi' : Hid (i ≤ L.length) := hi
        obtain ⟨M, hM⟩ : ∃ M, L.drop i = M := ⟨_, rfl⟩
        cases M with
        | nil =>
          have e1 : i = L.length := by have := congrArg List.length hM; rw [List.length_drop] at this; simp at this; omega
          have e2 : cnt L z = i := PgMath.cnt_at L z i hi hQ.out.2 hL.out.1 (fun h => by omega)
          have hP : Hid (Lay w w.heap.size s1 s2 bc bd a3 c3 S [] [] wr) := by have := hQ.out.1; rw [e2, hM] at this; exact this
          clear hQ hi e1 e2 hM
          have hH : ∀ b, b = bc ∨ b = bd → Hid (Calls Try.prog 8 #[.pointer (some ⟨b, 0, none⟩)] wr fun e w' => e = .returned (.tuple #[.int .i64 0, .bool false]) ∧ w' = wr) := fun b hb => by
            rcases hb with h | h
            · rw [h]; exact here_nil w.heap.size bc wr hP.out.1
            · rw [h]; exact here_nil s1 bd wr hP.out.2.1
          obtain ⟨m, hm⟩ : ∃ m, ([] : List Int).length = m := ⟨_, rfl⟩
          have hLf : ∀ b, b = bc ∨ b = bd → Hid (Calls Try.prog 6 #[.pointer (some ⟨b, 0, none⟩)] wr fun e w' => e = .returned (.int .i64 (m : Int)) ∧ w' = wr) := fun b hb => by
            rw [← hm]
            rcases hb with h | h
            · rw [h]; exact left_any w.heap.size bc _ wr hP.out.1
            · rw [h]; exact left_any s1 bd _ wr hP.out.2.1
          clear hm
          go_wp2_with (first
            | (go_at_call 8; refine (hH _ (by first | exact Or.inl rfl | exact Or.inr rfl)).out.mono ?_; rintro e wr ⟨rfl, rfl⟩)
            | (go_at_call 6; refine (hLf _ (by first | exact Or.inl rfl | exact Or.inr rfl)).out.mono ?_; rintro e wr ⟨rfl, rfl⟩))
          go_roundw
          case rel => exact ⟨k + 1, y, [], by have := hk2'.out; omega, by simp, rfl, hP.out, List.Pairwise.nil, Nat.zero_le _⟩
          case measure => have := hk2'.out; simp [intOf]; omega
        | cons v T =>
          have e1 : i < L.length := by have := congrArg List.length hM; rw [List.length_drop] at this; simp at this; omega
          have ev : L[i] = v := by
            have := List.drop_eq_getElem_cons e1
            rw [hM] at this
            injection this with h1 h2
            exact h1.symm
          have hT : Hid (Inc (v :: T) ∧ (v :: T).length ≤ n) := by
            have := hL.out
            refine ⟨?_, ?_⟩
            · rw [← hM]; exact PgMath.inc_drop this.1 i
            · rw [← hM, List.length_drop]; omega
          by_cases hvz : v < z
          · have d1 : ¬ z ≤ v := by omega
            have hNx : Hid (Calls Try.prog 9 #[.pointer (some ⟨bd, 0, none⟩)] wr fun e w' => e = .returned (.tuple #[]) ∧ Lay w w.heap.size s1 s2 bc bd a3 c3 S (L.drop (cnt L z)) (L.drop (i + 1)) w') :=
              (next_any s1 bd (L.drop i) wr hQ.out.1.2.1).mono (fun e w' ⟨h1, h2, h3⟩ => ⟨h1, hQ.out.1.setD (by rw [List.drop_drop] at h2; exact h2) h3⟩)
            have hHr : Hid (Calls Try.prog 8 #[.pointer (some ⟨bd, 0, none⟩)] wr fun e w' => e = .returned (.tuple #[.int .i64 v, .bool true]) ∧ w' = wr) := here_cons s1 bd v T wr (by have := hQ.out.1.2.1; rw [hM] at this; exact this)
            have hlt : Hid (i < L.length ∧ ∀ j (h : j < L.length), j < i + 1 → L[j] < z) := ⟨e1, fun j h hj => by
              by_cases e : j = i
              · subst e; rw [ev]; exact hvz
              · exact hQ.out.2 j h (by omega)⟩
            clear hQ hM ev e1 hT hi
            go_wp2_with (first
              | (go_at_call 8; refine hHr.out.mono ?_; rintro e wr ⟨rfl, rfl⟩)
              | (go_at_call 9; refine hNx.out.mono ?_; rintro e w6 ⟨rfl, hR6⟩))
            have hR6' : Hid (Lay w w.heap.size s1 s2 bc bd a3 c3 S (L.drop (cnt L z)) (L.drop (i + 1)) w6) := hR6
            clear hR6
            go_roundw
            case rel => exact ⟨i + 1, hlt.out.1, by simp, hR6'.out, hlt.out.2⟩
            case measure => have := hlt.out.1; simp [intOf]; omega
          · have d1 : z ≤ v := by omega
            have e2 : cnt L z = i := PgMath.cnt_at L z i hi hQ.out.2 hL.out.1 (fun h => by rw [ev]; exact d1)
            have hP : Hid (Lay w w.heap.size s1 s2 bc bd a3 c3 S (v :: T) (v :: T) wr) := by have := hQ.out.1; rw [e2, hM] at this; exact this
            clear hQ hi e1 e2 hM ev
            have hH : ∀ b, b = bc ∨ b = bd → Hid (Calls Try.prog 8 #[.pointer (some ⟨b, 0, none⟩)] wr fun e w' => e = .returned (.tuple #[.int .i64 v, .bool true]) ∧ w' = wr) := fun b hb => by
              rcases hb with h | h
              · rw [h]; exact here_cons w.heap.size bc v T wr hP.out.1
              · rw [h]; exact here_cons s1 bd v T wr hP.out.2.1
            obtain ⟨m, hm⟩ : ∃ m, (v :: T).length = m := ⟨_, rfl⟩
            have hLf : ∀ b, b = bc ∨ b = bd → Hid (Calls Try.prog 6 #[.pointer (some ⟨b, 0, none⟩)] wr fun e w' => e = .returned (.int .i64 (m : Int)) ∧ w' = wr) := fun b hb => by
              rw [← hm]
              rcases hb with h | h
              · rw [h]; exact left_any w.heap.size bc _ wr hP.out.1
              · rw [h]; exact left_any s1 bd _ wr hP.out.2.1
            clear hm
            go_wp2_with (first
              | (go_at_call 8; refine (hH _ (by first | exact Or.inl rfl | exact Or.inr rfl)).out.mono ?_; rintro e wr ⟨rfl, rfl⟩)
              | (go_at_call 6; refine (hLf _ (by first | exact Or.inl rfl | exact Or.inr rfl)).out.mono ?_; rintro e wr ⟨rfl, rfl⟩))
            go_roundw
            case rel => exact ⟨k + 1, y, v :: T, by have := hk2'.out; omega, by simp, rfl, hP.out, hT.out⟩
            case measure => have := hk2'.out; simp [intOf]; omega
    · have e : k = 2 := by omega
      subst e
      have hNw : Hid (Calls Try.prog 4 #[.slice a l.length c] wr fun e w' => ∃ b, e = .returned (.pointer (some ⟨b, 0, none⟩)) ∧ Cur w' wr.heap.size b S ∧ wr.heap.size ≤ b ∧ Below wr.heap.size wr w') := by
        unfold Hid
        rw [← hSL'.out]
        refine new_any a l c wr ?_ hr'.out.2
        exact hr'.out.1.below hR.out.1.2.2.2.1
      have hO : Hid (OwnI wr s2 (.slice a3 n c3) S ∧ Below w.heap.size w wr) := ⟨by have := hR.out.1.2.2.1; rw [hn'.out] at this; exact this, hR.out.1.2.2.2.1⟩
      clear hR hk
      go_wp2_with (go_at_call 4; refine hNw.out.mono ?_; rintro e w7 ⟨be, rfl, hE7, hlo7, hb7⟩)
      have hE7' : Hid (Cur w7 wr.heap.size be S ∧ OwnI w7 s2 (.slice a3 n c3) S ∧ Below w.heap.size w w7 ∧ wr.heap.size ≤ be) := ⟨hE7, ownI_below hO.out.1 hb7, hO.out.2.trans (hb7.mono hO.out.2.size), hlo7⟩
      have hO' : Hid (w.heap.size ≤ wr.heap.size ∧ ∀ g, (Value.slice a3 n c3).ownBlock = some g → g < wr.heap.size) := ⟨hO.out.2.size, fun g hg => by have h0 := hO.out.1; unfold OwnI at h0; exact (World.ownsRow.lt h0 g hg).2⟩
      clear hE7 hlo7 hb7 hO hNw
      generalize wr.heap.size = s4 at *
      go_loopw [19] (fun iv wr => ∃ i : Nat, i ≤ n ∧ iv = .int .i64 (i : Int) ∧ Hid (Cur wr s4 be (S.drop i) ∧ OwnI wr s2 (.slice a3 n c3) S ∧ Below w.heap.size w wr ∧ s4 ≤ be)) (fun iv _ => n - (intOf iv).toNat)
      case atStart => exact ⟨0, Nat.zero_le _, rfl, by rw [List.drop_zero]; exact hE7'.out⟩
      case round =>
        obtain ⟨i, hi, rfl, hQ⟩ := hrel
        have h0 : (0 : Int) ≤ (i : Int) := Int.natCast_nonneg _
        by_cases hlt : i < n
        · have i1 : (i : Int) < (n : Int) := Int.ofNat_lt.2 hlt
          have hlS : i < S.length := by rw [hn'.out]; exact hlt
          have hM := List.drop_eq_getElem_cons hlS
          have hrow := (ownI_row hQ.out.2.1).1
          obtain ⟨b3, o3, rfl, c5⟩ := hrow i hlS
          have hNx : Hid (Calls Try.prog 9 #[.pointer (some ⟨be, 0, none⟩)] wr fun e w' => e = .returned (.tuple #[]) ∧ (Cur w' s4 be (S.drop (i + 1)) ∧ OwnI w' s2 (.slice (some ⟨b3, o3, none⟩) n c3) S ∧ Below w.heap.size w w' ∧ s4 ≤ be)) :=
            (next_any s4 be (S.drop i) wr hQ.out.1).mono (fun e w' ⟨h1, h2, h3⟩ => by
              rw [List.drop_drop] at h2
              have hbb : OwnI w' s2 (.slice (some ⟨b3, o3, none⟩) n c3) S := by
                have h9 := hQ.out.2.1
                rcases h9 with ⟨q1, ⟨q2, q3⟩ | ⟨g, cap, cur, q2, q3, q4, q5⟩⟩
                · cases q2
                · refine ⟨q1, Or.inr ⟨g, cap, cur, q2, q3, ?_, q5⟩⟩
                  have hg : g < s4 := hO'.out.2 g (by rw [q2]; rfl)
                  have := hQ.out.2.2.2
                  rw [h3.2.2.2.2 g (by omega)]
                  exact q4
              exact ⟨h1, h2, hbb, hQ.out.2.2.1.trans (h3.below (by have := hO'.out.1; have := hQ.out.2.2.2; omega)), hQ.out.2.2.2⟩)
          have hLf : Hid (Calls Try.prog 6 #[.pointer (some ⟨be, 0, none⟩)] wr fun e w' => e = .returned (.int .i64 ((n : Int) - (i : Int))) ∧ w' = wr) := by
            have := left_any s4 be (S.drop i) wr hQ.out.1
            rw [List.length_drop, hn'.out, show (((n - i : Nat)) : Int) = (n : Int) - (i : Int) by omega] at this
            exact this
          have hHr : Hid (Calls Try.prog 8 #[.pointer (some ⟨be, 0, none⟩)] wr fun e w' => e = .returned (.tuple #[.int .i64 S[i], .bool true]) ∧ w' = wr) := here_cons s4 be _ _ wr (by have := hQ.out.1; rw [hM] at this; exact this)
          generalize S[i] = v at *
          have hlt' : Hid (i < n) := hlt
          clear hQ hM hrow hlS hi hlt
          go_wp2_with (first
            | (go_at_call 8; refine hHr.out.mono ?_; rintro e wr ⟨rfl, rfl⟩)
            | (go_at_call 6; refine hLf.out.mono ?_; rintro e wr ⟨rfl, rfl⟩)
            | (go_at_call 9; refine hNx.out.mono ?_; rintro e w8 ⟨rfl, hR8⟩))
          have hR8' : Hid _ := hR8
          clear hR8
          go_roundw
          case rel => exact ⟨i + 1, hlt'.out, by simp, hR8'.out⟩
          case measure => have := hlt'.out; simp [intOf]; omega
        · have e : i = n := by omega
          subst e
          have i1 : ¬ (i : Int) < (i : Int) := by omega
          have hM : S.drop i = [] := by rw [← hn'.out]; exact List.drop_length
          have hE : Cur wr s4 be [] := by have := hQ.out.1; rw [hM] at this; exact this
          have hHr : Hid (Calls Try.prog 8 #[.pointer (some ⟨be, 0, none⟩)] wr fun e w' => e = .returned (.tuple #[.int .i64 0, .bool false]) ∧ w' = wr) := here_nil s4 be wr hE
          have hNx : Hid (Calls Try.prog 9 #[.pointer (some ⟨be, 0, none⟩)] wr fun e w' => e = .returned (.tuple #[]) ∧ (Cur w' s4 be [] ∧ Below w.heap.size w w')) :=
            (next_any s4 be [] wr hE).mono (fun e w' ⟨h1, h2, h3⟩ => ⟨h1, h2, hQ.out.2.2.1.trans (h3.below (by have := hO'.out.1; have := hQ.out.2.2.2; omega))⟩)
          clear hQ hM hE hi hlt
          go_wp2_with (first
            | (go_at_call 8; refine hHr.out.mono ?_; rintro e wr ⟨rfl, rfl⟩)
            | (go_at_call 9; refine hNx.out.mono ?_; rintro e w8 ⟨rfl, hE8, hB8⟩)
            | (go_at_call 6; refine (left_any s4 be [] _ hE8).mono ?_; rintro e w8 ⟨rfl, rfl⟩))
          go_ret
          exact ⟨rfl, hB8⟩
end Go.Proofs.Ytejgkiaecjhbgaa
