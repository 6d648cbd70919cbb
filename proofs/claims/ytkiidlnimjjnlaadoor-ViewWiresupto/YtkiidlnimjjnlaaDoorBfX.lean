import Derived.Test.YtkiidlnimjjnlaaDoorBwX
import Derived.Test.YtkiidlnimjjnlaaDoorBJoin4
namespace Go.Proofs.YtkiidlnimjjnlaaDoor
open Go.RowKit
set_option linter.unusedVariables false

set_option maxRecDepth 100000 in
set_option maxHeartbeats 4000000 in
theorem rfront_any (a : Option Addr) (n c : Nat) (D C T : Nat → Int) (M : Nat → Bool) (B : Nat → ByteArray) (i : Nat) (w : World) (hn : IsNodes w a n D C T M B) (hi : i < n) (hl : n ≤ 140737488355328) (hp : ∀ j, i = j + 1 → 1 ≤ D j ∧ D j ≤ 64) :
    Calls Tryd.prog 38 #[.slice a n c, .int .i64 (i : Int)] w fun r w' => (∃ g, r = .returned (.bool g) ∧ (g = true ↔ NdOk D C T M B i)) ∧ Below w.heap.size w w' := by
  obtain ⟨b, off, rfl, c0, c1, c2, c3, c4⟩ := hn i hi
  have i0 : (0 : Int) ≤ (i : Int) := Int.natCast_nonneg _
  have i1 : (i : Int) < (n : Int) := Int.ofNat_lt.2 hi
  have hok : Hid (NdOk D C T M B i ↔ (lst i ≤ D i ∧ D i ≤ mst D M i ∧ fineB (C i) (T i) = true ∧ (M i = true → (B i).toList.isEmpty = true))) := Iff.rfl
  have hb1 : Hid (Below w.heap.size w (w.alloc (.cells #[.int .i64 (D i), .int .i64 (C i), .bool (M i), .int .i64 (T i), .string (B i)] 38))) := (Below.refl _ _).alloc (Nat.le_refl _) _
  have hF : ∀ W, Hid (Calls Tryd.prog 47 #[.int .i64 (C i), .int .i64 (T i)] W fun r w' => r = .returned (.bool (fineB (C i) (T i))) ∧ W = w') := fun W => fine_any (C i) (T i) W
  obtain ⟨fb, hfb⟩ : ∃ x, fineB (C i) (T i) = x := ⟨_, rfl⟩
  rw [hfb] at hok hF
  have hnn : Hid (IsNodes w (some ⟨b, off, none⟩) n D C T M B) := hn
  generalize hC : C i = cl at *
  generalize hT : T i = t at *
  generalize hM : M i = m at *
  generalize hB : B i = s at *
  clear hn hC hT hM hB hfb
  cases fb with
  | false =>
    have hno : Hid (¬ NdOk D C T M B i) := fun h => by have := (hok.out.1 h).2.2.1; cases this
    clear hok hp hnn
    generalize D i = d at *
    go_enter Tryd.func38, Tryd.ntmps38
    go_wp2_with (go_at_call 47; refine (hF _).out.mono ?_; rintro r w' ⟨rfl, rfl⟩)
    go_ret
    exact ⟨⟨false, rfl, fun h => (by cases h), fun h => absurd h hno.out⟩, hb1.out⟩
  | true =>
    by_cases hme : m = true ∧ ¬ s.toList.isEmpty = true
    · obtain ⟨rfl, hse⟩ := hme
      have hno : Hid (¬ NdOk D C T M B i) := fun h => hse ((hok.out.1 h).2.2.2 rfl)
      have em : (s.toList == []) = false := by simpa using hse
      clear hok hp hnn hse
      generalize D i = d at *
      go_enter Tryd.func38, Tryd.ntmps38
      go_wp2_with (go_at_call 47; refine (hF _).out.mono ?_; rintro r w' ⟨rfl, rfl⟩)
      go_ret
      exact ⟨⟨false, rfl, fun h => (by cases h), fun h => absurd h hno.out⟩, hb1.out⟩
    · have hme' : Hid (m = true → s.toList.isEmpty = true) := fun h => by
        by_cases q : s.toList.isEmpty = true
        · exact q
        · exact absurd ⟨h, q⟩ hme
      have em : m = true → (s.toList == []) = true := fun h => by simpa using hme'.out h
      clear hme
      have hok2 : Hid (NdOk D C T M B i ↔ (lst i ≤ D i ∧ D i ≤ mst D M i)) := ⟨fun h => ⟨(hok.out.1 h).1, (hok.out.1 h).2.1⟩, fun h => hok.out.2 ⟨h.1, h.2, rfl, hme'.out⟩⟩
      clear hok hme'
      rcases Nat.eq_zero_or_pos i with hi0 | hi0
      · have hz : ((i : Int) == 0) = true := by rw [hi0]; rfl
        have hok3 : Hid ((D i == 1) = true ↔ NdOk D C T M B i) := by
          unfold Hid
          rw [hok2.out, beq_iff_eq]
          subst hi0
          show _ ↔ (1 ≤ D 0 ∧ D 0 ≤ 1)
          omega
        clear hok2 hp hnn hi0
        obtain ⟨d, hd⟩ : ∃ d, D i = d := ⟨_, rfl⟩
        rw [hd] at hok3 c0 hb1
        clear hd
        cases m with
        | true =>
          have em' := em rfl
          clear em
          go_enter Tryd.func38, Tryd.ntmps38
          go_wp2_with (go_at_call 47; refine (hF _).out.mono ?_; rintro r w' ⟨rfl, rfl⟩)
          go_ret
          exact ⟨⟨_, rfl, hok3.out⟩, hb1.out⟩
        | false =>
          clear em
          go_enter Tryd.func38, Tryd.ntmps38
          go_wp2_with (go_at_call 47; refine (hF _).out.mono ?_; rintro r w' ⟨rfl, rfl⟩)
          go_ret
          exact ⟨⟨_, rfl, hok3.out⟩, hb1.out⟩
      · obtain ⟨j, hj⟩ : ∃ j, i = j + 1 := ⟨i - 1, by omega⟩
        have hz : ((i : Int) == 0) = false := by rw [beq_eq_false_iff_ne]; omega
        have hjw : Hid (wrap64 ((i : Int) - 1) = (j : Int)) := by unfold Hid wrap64; omega
        obtain ⟨b', off', hbb, p0, p1, p2, p3, p4⟩ := hnn.out j (by omega)
        injection hbb with hbb
        injection hbb with hbb1 hbb2
        subst hbb1 hbb2
        obtain ⟨hp1, hp2⟩ := hp j hj
        have hdw : Hid (wrap64 (D j + 1) = D j + 1) := by unfold Hid wrap64; omega
        have hok3 : Hid (NdOk D C T M B i ↔ (2 ≤ D i ∧ D i ≤ D j + (if M j = true then 1 else 0))) := by
          unfold Hid
          rw [hok2.out]
          subst hj
          exact Iff.rfl
        have hb2 : Hid (Below w.heap.size w ((w.alloc (.cells #[.int .i64 (D i), .int .i64 cl, .bool m, .int .i64 t, .string s] 38)).alloc (.cells #[.int .i64 (D j), .int .i64 (C j), .bool (M j), .int .i64 (T j), .string (B j)] 38))) := hb1.out.alloc hb1.out.size _
        have j0 : (0 : Int) ≤ (j : Int) := Int.natCast_nonneg _
        have j1 : (j : Int) < (n : Int) := by omega
        obtain ⟨d, hd⟩ : ∃ d, D i = d := ⟨_, rfl⟩
        rw [hd] at hok3 c0 hb1 hb2
        generalize D j = e at *
        generalize C j = cj at *
        generalize T j = tj at *
        generalize M j = mj at *
        generalize B j = bj at *
        have hbl : b < w.heap.size := World.block_lt_of_cell? w _ c0
        have r0 : (w.alloc (.cells #[.int .i64 d, .int .i64 cl, .bool m, .int .i64 t, .string s] 38)).cell? ⟨b, off + j * 5, none⟩ = some (.int .i64 e) := by rw [World.cell?_alloc_past _ _ _ (by exact hbl)]; exact p0
        have r1 : (w.alloc (.cells #[.int .i64 d, .int .i64 cl, .bool m, .int .i64 t, .string s] 38)).cell? ⟨b, off + j * 5 + 1, none⟩ = some (.int .i64 cj) := by rw [World.cell?_alloc_past _ _ _ (by exact hbl)]; exact p1
        have r2 : (w.alloc (.cells #[.int .i64 d, .int .i64 cl, .bool m, .int .i64 t, .string s] 38)).cell? ⟨b, off + j * 5 + 2, none⟩ = some (.bool mj) := by rw [World.cell?_alloc_past _ _ _ (by exact hbl)]; exact p2
        have r3 : (w.alloc (.cells #[.int .i64 d, .int .i64 cl, .bool m, .int .i64 t, .string s] 38)).cell? ⟨b, off + j * 5 + 3, none⟩ = some (.int .i64 tj) := by rw [World.cell?_alloc_past _ _ _ (by exact hbl)]; exact p3
        have r4 : (w.alloc (.cells #[.int .i64 d, .int .i64 cl, .bool m, .int .i64 t, .string s] 38)).cell? ⟨b, off + j * 5 + 4, none⟩ = some (.string bj) := by rw [World.cell?_alloc_past _ _ _ (by exact hbl)]; exact p4
        have hjw' := hjw.out
        have hdw' := hdw.out
        clear hok2 hp hnn hi0 hd hj hjw hdw hp1 hp2 hl hi
        by_cases q1 : d < 2
        · have hno : Hid (¬ NdOk D C T M B i) := fun h => by have := (hok3.out.1 h).1; omega
          clear hok3
          cases m with
          | true =>
            have em' := em rfl
            clear em
            go_enter Tryd.func38, Tryd.ntmps38
            go_wp2_with (go_at_call 47; refine (hF _).out.mono ?_; rintro r w' ⟨rfl, rfl⟩)
            go_ret
            exact ⟨⟨false, rfl, fun h => (by cases h), fun h => absurd h hno.out⟩, hb2.out⟩
          | false =>
            clear em
            go_enter Tryd.func38, Tryd.ntmps38
            go_wp2_with (go_at_call 47; refine (hF _).out.mono ?_; rintro r w' ⟨rfl, rfl⟩)
            go_ret
            exact ⟨⟨false, rfl, fun h => (by cases h), fun h => absurd h hno.out⟩, hb2.out⟩
        by_cases q2 : d > e + 1
        · have hno : Hid (¬ NdOk D C T M B i) := fun h => by have := (hok3.out.1 h).2; split at this <;> omega
          clear hok3
          cases m with
          | true =>
            have em' := em rfl
            clear em
            go_enter Tryd.func38, Tryd.ntmps38
            go_wp2_with (go_at_call 47; refine (hF _).out.mono ?_; rintro r w' ⟨rfl, rfl⟩)
            go_ret
            exact ⟨⟨false, rfl, fun h => (by cases h), fun h => absurd h hno.out⟩, hb2.out⟩
          | false =>
            clear em
            go_enter Tryd.func38, Tryd.ntmps38
            go_wp2_with (go_at_call 47; refine (hF _).out.mono ?_; rintro r w' ⟨rfl, rfl⟩)
            go_ret
            exact ⟨⟨false, rfl, fun h => (by cases h), fun h => absurd h hno.out⟩, hb2.out⟩
        by_cases q3 : d ≤ e
        · have hyes : Hid (NdOk D C T M B i) := hok3.out.2 ⟨by omega, by split <;> omega⟩
          clear hok3
          cases m with
          | true =>
            have em' := em rfl
            clear em
            go_enter Tryd.func38, Tryd.ntmps38
            go_wp2_with (go_at_call 47; refine (hF _).out.mono ?_; rintro r w' ⟨rfl, rfl⟩)
            go_ret
            exact ⟨⟨true, rfl, fun _ => hyes.out, fun _ => rfl⟩, hb2.out⟩
          | false =>
            clear em
            go_enter Tryd.func38, Tryd.ntmps38
            go_wp2_with (go_at_call 47; refine (hF _).out.mono ?_; rintro r w' ⟨rfl, rfl⟩)
            go_ret
            exact ⟨⟨true, rfl, fun _ => hyes.out, fun _ => rfl⟩, hb2.out⟩
        · have hok4 : Hid (mj = true ↔ NdOk D C T M B i) := by
            unfold Hid
            rw [hok3.out]
            constructor
            · intro h; rw [if_pos h]; omega
            · intro h
              by_cases q : mj = true
              · exact q
              · rw [if_neg q] at h; omega
          clear hok3
          cases m with
          | true =>
            have em' := em rfl
            clear em
            go_enter Tryd.func38, Tryd.ntmps38
            go_wp2_with (go_at_call 47; refine (hF _).out.mono ?_; rintro r w' ⟨rfl, rfl⟩)
            go_ret
            exact ⟨⟨_, rfl, by rw [decide_eq_false (Int.not_le.2 q3), Bool.false_or]; exact hok4.out⟩, hb2.out⟩
          | false =>
            clear em
            go_enter Tryd.func38, Tryd.ntmps38
            go_wp2_with (go_at_call 47; refine (hF _).out.mono ?_; rintro r w' ⟨rfl, rfl⟩)
            go_ret
            exact ⟨⟨_, rfl, by rw [decide_eq_false (Int.not_le.2 q3), Bool.false_or]; exact hok4.out⟩, hb2.out⟩
end Go.Proofs.YtkiidlnimjjnlaaDoor

namespace Go.Proofs.YtkiidlnimjjnlaaDoor
open Go.RowKit
open BerMath (lo)

/-- An element as a value. -/
abbrev elV (c : Int) (m : Bool) (t : Int) (s : ByteArray) : Value := .agg #[.int .i64 c, .bool m, .int .i64 t, .string s]
/-- What Join answers. -/
def joinV (c : Int) (m : Bool) (t : Int) (s : ByteArray) : Value :=
  if fineB c t = false then .tuple #[.string ⟨#[]⟩, .int .i64 28]
  else if 4294967295 < s.size then .tuple #[.string ⟨#[]⟩, .int .i64 24]
  else .tuple #[.string (S (fb c.toNat m t.toNat :: lenB s.size ++ s.data.toList)), .int .i64 0]

end Go.Proofs.YtkiidlnimjjnlaaDoor

namespace Go.Proofs.YtkiidlnimjjnlaaDoor
open Go.RowKit
open BerMath (lo be)

theorem lenB_be (n : Nat) (h : ¬ n < 128) : lenB n = UInt8.ofNat (128 + ll n) :: be (ll n) (n : Int) := by
  rcases ll_cases n with ⟨a, e⟩ | ⟨a, b, e⟩ | ⟨a, b, c, e⟩ | ⟨a, b, c, d, e⟩ | ⟨a, b, c, d, e⟩
  · exact absurd a h
  · unfold lenB; rw [if_neg a, if_pos b, e]; rfl
  · unfold lenB; rw [if_neg a, if_neg b, if_pos c, e]; rfl
  · unfold lenB; rw [if_neg a, if_neg b, if_neg c, if_pos d, e]
    show _ = [131, lo ((n : Int) / 256 / 256), lo ((n : Int) / 256), lo (n : Int)]
    rw [show (n : Int) / 256 / 256 = (n : Int) / 65536 by omega]
  · unfold lenB; rw [if_neg a, if_neg b, if_neg c, if_neg d, e]
    show _ = [132, lo ((n : Int) / 256 / 256 / 256), lo ((n : Int) / 256 / 256), lo ((n : Int) / 256), lo (n : Int)]
    rw [show (n : Int) / 256 / 256 / 256 = (n : Int) / 16777216 by omega, show (n : Int) / 256 / 256 = (n : Int) / 65536 by omega]
theorem ll_pow (n : Nat) (h : ¬ n < 128) (hn : n ≤ 4294967295) : n < 256 ^ ll n ∧ ∀ j, 1 ≤ j → j < ll n → 256 ^ j ≤ n := by
  have p2 : (256 : Nat) ^ 2 = 65536 := by decide
  have p3 : (256 : Nat) ^ 3 = 16777216 := by decide
  have p4 : (256 : Nat) ^ 4 = 4294967296 := by decide
  have p1 : (256 : Nat) ^ 1 = 256 := by decide
  rcases ll_cases n with ⟨a, e⟩ | ⟨a, b, e⟩ | ⟨a, b, c, e⟩ | ⟨a, b, c, d, e⟩ | ⟨a, b, c, d, e⟩
  · exact absurd a h
  · rw [e, p1]; exact ⟨b, fun j h1 h2 => by omega⟩
  · rw [e, p2]
    refine ⟨c, fun j h1 h2 => ?_⟩
    have : j = 1 := by omega
    subst this; rw [p1]; omega
  · rw [e, p3]
    refine ⟨d, fun j h1 h2 => ?_⟩
    have : j = 1 ∨ j = 2 := by omega
    rcases this with rfl | rfl
    · rw [p1]; omega
    · rw [p2]; omega
  · rw [e, p4]
    refine ⟨by omega, fun j h1 h2 => ?_⟩
    have : j = 1 ∨ j = 2 ∨ j = 3 := by omega
    rcases this with rfl | rfl | rfl
    · rw [p1]; omega
    · rw [p2]; omega
    · rw [p3]; omega
theorem pow_small (j : Nat) (h : j ≤ 4) : 256 ^ j ≤ 4294967296 := by
  have : (256 : Nat) ^ j ≤ 256 ^ 4 := Nat.pow_le_pow_right (by decide) h
  have e : (256 : Nat) ^ 4 = 4294967296 := by decide
  omega
theorem w_mul (P : Nat) (h : P ≤ 4294967296) : wrap64 ((P : Int) * 256) = ((P * 256 : Nat) : Int) := by unfold wrap64; omega
theorem w_add1 (P : Nat) (h : P ≤ 4294967296) : wrap64 ((P : Int) + 1) = ((P + 1 : Nat) : Int) := by unfold wrap64; omega
theorem tdiv_n (d : Nat) : (d : Int).tdiv 256 = ((d / 256 : Nat) : Int) := by rw [Int.tdiv_eq_ediv_of_nonneg (by omega)]; omega
theorem w_n (d : Nat) (h : d ≤ 4294967296) : wrap64 (d : Int) = (d : Int) := by unfold wrap64; omega
theorem tmod_lo (d : Nat) : IntKind.u8.wrap ((d : Int).tmod 256) = ((lo (d : Int)).toNat : Int) := by
  rw [Int.tmod_eq_emod_of_nonneg (by omega), lo_wrap, BerMath.lo_n, BerMath.lo_n]; omega
theorem mk_n (k : Nat) (h : k ≤ 4) : IntKind.u8.wrap (128 + (k : Int)) = ((UInt8.ofNat (128 + k)).toNat : Int) := by
  have : ∀ k : Fin 5, IntKind.u8.wrap (128 + (k.val : Int)) = ((UInt8.ofNat (128 + k.val)).toNat : Int) := by decide +kernel
  exact this ⟨k, by omega⟩
theorem w_128 (k : Nat) (h : k ≤ 4) : wrap64 (128 + (k : Int)) = 128 + (k : Int) := by unfold wrap64; omega
/-- A number without its lowest bytes. -/
def dv (n : Nat) : Nat → Nat
  | 0 => n
  | e + 1 => dv n e / 256
theorem dv_zero (n : Nat) : dv n 0 = n := rfl
theorem dv_next (n e : Nat) : dv n e / 256 = dv n (e + 1) := rfl
theorem dv_small (n e : Nat) (h : n ≤ 4294967295) : dv n e ≤ 4294967296 := by
  have key : dv n e ≤ n := by
    induction e with
    | zero => exact Nat.le_refl _
    | succ e ih => exact Nat.le_trans (Nat.div_le_self _ _) ih
  omega
theorem dv_be (k q n : Nat) : be (k + 1) ((dv n q : Nat) : Int) = be k ((dv n (q + 1) : Nat) : Int) ++ [lo ((dv n q : Nat) : Int)] := by
  have e : ((dv n q : Nat) : Int) / 256 = ((dv n (q + 1) : Nat) : Int) := by
    rw [← dv_next]; omega
  show be k (((dv n q : Nat) : Int) / 256) ++ _ = _
  rw [e]
theorem dv_be' (j e n : Nat) (h : e + 1 ≤ j) : be (j - e) ((dv n e : Nat) : Int) = be (j - (e + 1)) ((dv n (e + 1) : Nat) : Int) ++ [lo ((dv n e : Nat) : Int)] := by
  rw [← dv_be]
  congr 1
  omega
/-- The bytes so far. -/
def sofar (n j q : Nat) : List UInt8 := be (j - q) ((dv n q : Nat) : Int)
theorem sofar_next (n j e : Nat) (h : e + 1 ≤ j) : sofar n j e = sofar n j (e + 1) ++ [lo ((dv n e : Nat) : Int)] := dv_be' j e n h
theorem sofar_start (n j : Nat) : sofar n j j = [] := by unfold sofar; rw [Nat.sub_self]; rfl
theorem sofar_end (n j : Nat) : sofar n j 0 = be j (n : Int) := by unfold sofar; rw [dv_zero, Nat.sub_zero]
theorem sofar_len (n j q : Nat) : (sofar n j q).length ≤ j := by unfold sofar; rw [BerMath.be_len]; omega
theorem sofar_facts (n j q : Nat) (bl : List UInt8) (f g : UInt8) (h : q + 1 ≤ j) (h4 : j ≤ 4) (hbl : sofar n j (q + 1) = bl) : Hid (sofar n j q = bl ++ [lo ((dv n q : Nat) : Int)]) ∧ Hid ((f :: g :: bl).length ≤ 1099511627776) := by
  have h1 := sofar_len n j (q + 1)
  rw [hbl] at h1
  refine ⟨?_, ?_⟩
  · unfold Hid; rw [← hbl]; exact sofar_next n j q h
  · unfold Hid; rw [List.length_cons, List.length_cons]; omega
end Go.Proofs.YtkiidlnimjjnlaaDoor

namespace Go.Proofs.YtkiidlnimjjnlaaDoor
open Go.RowKit
open BerMath (lo be)

theorem push_byte_at (w : World) {ops : Array Oper} {rest : List Oper} {o : Oper} {a : Act} {Q : Exit → Act → World → Prop} (hgd : o.guard = none) (s x : Operand)
    (ho : o.op = .call { callee := .builtin .append, args := #[s, x], argTypes := #[68, 68] }) (B : Nat) (v : Value) (l : List UInt8) (c : UInt8) (g : Nat)
    (hs : a.eval s = v) (hx : a.eval x = .slice (some ⟨g, 0, none⟩) 1 1) (hg : g = w.heap.size) (hown : Own w B v l) (hB : B ≤ w.heap.size) (hl : l.length ≤ 1099511627776)
    (h : ∀ v' w', Own w' B v' (l ++ [c]) → Below B w w' → wpList Tryd.prog ops Q rest (a.put o.dst v') w') :
    wpList Tryd.prog ops Q (o :: rest) a (w.alloc (.cells #[.int .u8 (c.toNat : Int)] 5)) := by
  subst hg
  exact push_byte w hgd s x ho B v l c hs hx hown hB hl h
theorem w_sub1 (k : Nat) (h : k ≤ 4) : wrap64 ((k : Int) - 1) = (k : Int) - 1 := by unfold wrap64; omega
theorem meas_i (q : Nat) : (intOf (.int .i64 ((q : Int) - 1)) + 1).toNat < (intOf (.int .i64 (q : Int)) + 1).toNat := by
  show ((q : Int) - 1 + 1).toNat < ((q : Int) + 1).toNat
  omega
theorem div_small (n p : Nat) (h : n ≤ 4294967295) : n / p ≤ 4294967296 := Nat.le_trans (Nat.div_le_self _ _) (by omega)
theorem cast_1 (e : Nat) : (((e + 1 : Nat) : Int)) = (e : Int) + 1 := by omega
theorem meas_k2 (k j : Nat) (h : j < k) : k - (intOf (.int .i64 ((j : Int) + 1))).toNat < k - (intOf (.int .i64 (j : Int))).toNat := by
  rw [← cast_1]
  show k - (((j + 1 : Nat) : Int)).toNat < k - ((j : Nat) : Int).toNat
  rw [Int.toNat_natCast, Int.toNat_natCast]
  omega
theorem own_one (W : World) (B : Nat) (f : UInt8) (hB : B ≤ W.heap.size) : Own (W.alloc (.cells #[.int .u8 (f.toNat : Int)] 5)) B (.slice (some ⟨W.heap.size, 0, none⟩) 1 1) [f] :=
  ⟨rfl, Or.inr ⟨W.heap.size, 1, #[.int .u8 (f.toNat : Int)], rfl, hB, heap_alloc_new W _, Nat.le_refl _, by unfold maxLen; omega, rfl, rfl⟩⟩

theorem meas_k (k j : Nat) (h : j < k) (hw : wrap64 ((j : Int) + 1) = ((j + 1 : Nat) : Int)) : k - (intOf (.int .i64 (wrap64 ((j : Int) + 1)))).toNat < k - (intOf (.int .i64 (j : Int))).toNat := by
  rw [hw]
  show k - (((j + 1 : Nat) : Int)).toNat < k - ((j : Nat) : Int).toNat
  rw [Int.toNat_natCast, Int.toNat_natCast]
  omega
/-- The tag byte, as the reference reckons it. -/
theorem tag_nums (c t : Nat) (hc : c ≤ 3) (ht : t ≤ 30) : wrap64 ((c : Int) * 64) = ((c * 64 : Nat) : Int) ∧ wrap64 (((c * 64 : Nat) : Int) + (t : Int)) = ((c * 64 + t : Nat) : Int) ∧ wrap64 (((c * 64 + t : Nat) : Int) + 32) = ((c * 64 + t + 32 : Nat) : Int) := by
  unfold wrap64; omega
theorem tag_byte (c t : Nat) (m : Bool) (hc : c ≤ 3) (ht : t ≤ 30) : (m = false → IntKind.u8.wrap ((c * 64 + t : Nat) : Int) = ((fb c m t).toNat : Int)) ∧ (m = true → IntKind.u8.wrap ((c * 64 + t + 32 : Nat) : Int) = ((fb c m t).toNat : Int)) := by
  have h := fb_n c m t hc ht
  constructor
  · rintro rfl
    rw [u8_small _ (by omega), h]; simp
  · rintro rfl
    rw [u8_small _ (by omega), h]; simp; omega

set_option maxRecDepth 100000 in
set_option maxHeartbeats 1000000 in
theorem refHeader_any (c t : Nat) (m : Bool) (n : Nat) (w : World) (hc : c ≤ 3) (ht : t ≤ 30) (hn : n ≤ 4294967295) :
    Calls Tryd.prog 39 #[.int .i64 (c : Int), .bool m, .int .i64 (t : Int), .int .i64 (n : Int)] w fun r w' => ∃ v', r = .returned v' ∧ Own w' w.heap.size v' (fb c m t :: lenB n) ∧ Below w.heap.size w w' := by
  obtain ⟨h1, h2, h3⟩ := tag_nums c t hc ht
  obtain ⟨h4, h5⟩ := tag_byte c t m hc ht
  have hown := own_one w w.heap.size (fb c m t) (Nat.le_refl _)
  have HB : Below w.heap.size w (w.alloc (.cells #[.int .u8 ((fb c m t).toNat : Int)] 5)) := (Below.refl _ _).alloc (Nat.le_refl _) _
  obtain ⟨C, hC⟩ : ∃ C : Int, (c : Int) = C := ⟨_, rfl⟩
  obtain ⟨T, hT⟩ : ∃ T : Int, (t : Int) = T := ⟨_, rfl⟩
  obtain ⟨C6, hC6⟩ : ∃ C6 : Int, ((c * 64 : Nat) : Int) = C6 := ⟨_, rfl⟩
  obtain ⟨X, hX⟩ : ∃ X : Int, ((c * 64 + t : Nat) : Int) = X := ⟨_, rfl⟩
  obtain ⟨Y, hY⟩ : ∃ Y : Int, ((c * 64 + t + 32 : Nat) : Int) = Y := ⟨_, rfl⟩
  rw [hC, hC6] at h1
  rw [hC6, hT, hX] at h2
  rw [hX, hY] at h3
  rw [hX] at h4
  rw [hY] at h5
  rw [hC, hT]
  obtain ⟨f, hf⟩ : ∃ f, fb c m t = f := ⟨_, rfl⟩
  rw [hf] at h4 h5 hown HB
  rw [hf]
  clear hC hT hC6 hX hY hf
  by_cases hs : n < 128
  · have d1 : decide ((n : Int) < 128) = true := decide_eq_true (by omega)
    have hlb : Hid (lenB n = [lo (n : Int)]) := by unfold Hid lenB; rw [if_pos hs]
    have hw := lo_wrap (n : Int)
    clear hs hn hc ht
    generalize hZ : (n : Int) = Z at *
    clear hZ
    cases m
    · have h6 := h4 rfl
      clear h4 h5
      go_enter Tryd.func39, Tryd.ntmps39
      go_wp2_with (at_builtin; refine push_byte_at _ rfl _ _ rfl w.heap.size _ [f] (lo Z) _ rfl rfl ?_ ?_ ?_ ?_ ?_; (simp); (exact hown); (exact HB.size); (simp); intro v1 w1 hown1 hb1; replace HB := HB.trans hb1)
      go_ret
      exact ⟨_, rfl, by rw [hlb.out]; exact hown1, HB⟩
    · have h6 := h5 rfl
      clear h4 h5
      go_enter Tryd.func39, Tryd.ntmps39
      go_wp2_with (at_builtin; refine push_byte_at _ rfl _ _ rfl w.heap.size _ [f] (lo Z) _ rfl rfl ?_ ?_ ?_ ?_ ?_; (simp); (exact hown); (exact HB.size); (simp); intro v1 w1 hown1 hb1; replace HB := HB.trans hb1)
      go_ret
      exact ⟨_, rfl, by rw [hlb.out]; exact hown1, HB⟩
  have d1 : decide ((n : Int) < 128) = false := decide_eq_false (by omega)
  obtain ⟨hp1, hp2⟩ := ll_pow n hs hn
  have hlb : Hid (lenB n = UInt8.ofNat (128 + ll n) :: be (ll n) (n : Int)) := lenB_be n hs
  have hk4 : ll n ≤ 4 ∧ 1 ≤ ll n := by have := ll_cases n; omega
  obtain ⟨k, hk⟩ : ∃ k, ll n = k := ⟨_, rfl⟩
  rw [hk] at hp1 hp2 hlb hk4
  have hp1' : Hid (n < 256 ^ k) := hp1
  have hp2' : Hid (∀ j, 1 ≤ j → j < k → 256 ^ j ≤ n) := hp2
  have hk4' : Hid (k ≤ 4 ∧ 1 ≤ k) := hk4
  have hn' : Hid (n ≤ 4294967295) := hn
  have hkb := mk_n k hk4.1
  have hkw := w_128 k hk4.1
  clear hp1 hp2 hk4 hk hs hn hc ht
  cases m
  all_goals
    first | (have h6 := h4 rfl) | (have h6 := h5 rfl)
    clear h4 h5
    go_enter Tryd.func39, Tryd.ntmps39
    go_wp2_with fail
    go_loopw [11, 12] (fun kv pv wr => ∃ (j : Nat), 1 ≤ j ∧ j ≤ k ∧ kv = .int .i64 (j : Int) ∧ pv = .int .i64 ((256 ^ j : Nat) : Int) ∧ w.alloc (.cells #[.int .u8 (f.toNat : Int)] 5) = wr) (fun kv _ _ => k - (intOf kv).toNat)
    case atStart => exact ⟨1, Nat.le_refl _, hk4'.out.2, rfl, rfl, rfl⟩
    case round =>
      obtain ⟨j, hj1, hj2, rfl, rfl, rfl⟩ := hrel
      by_cases hlt : j < k
      · have hpj := hp2'.out j hj1 hlt
        have hP4 := pow_small j (Nat.le_trans hj2 hk4'.out.1)
        have hnx : Hid (256 ^ j * 256 = 256 ^ (j + 1)) := rfl
        have hwj := w_add1 j (Nat.le_trans (Nat.le_trans hj2 hk4'.out.1) (by decide))
        generalize 256 ^ j = P at *
        have hwm := w_mul P hP4
        have hlt' : Hid (j < k) := hlt
        have hwj' : Hid (wrap64 ((j : Int) + 1) = ((j + 1 : Nat) : Int)) := hwj
        have hwm' : Hid (wrap64 ((P : Int) * 256) = ((P * 256 : Nat) : Int)) := hwm
        clear hP4 hlt hwj hwm
        go_wp2_with fail
        go_roundw
        case rel => exact ⟨j + 1, Nat.le_succ_of_le hj1, hlt'.out, by rw [hwj'.out], by rw [hwm'.out, hnx.out], trivial⟩
        case measure => exact meas_k k j hlt'.out hwj'.out
      · have hjk : j = k := Nat.le_antisymm hj2 (Nat.le_of_not_lt hlt)
        subst hjk
        have hp := hp1'.out
        have hpn : ¬ 256 ^ j ≤ n := Nat.not_le_of_lt hp
        generalize 256 ^ j = P at hpn hp ⊢
        clear hp hp1' hp2' hlt
        go_wp2_with (at_builtin; refine push_byte_at _ rfl _ _ rfl w.heap.size _ [f] (UInt8.ofNat (128 + j)) _ rfl rfl ?_ ?_ ?_ ?_ ?_; (simp); (exact hown); (exact HB.size); (simp); intro v1 w1 hown1 hb1; replace HB := HB.trans hb1; clear hb1)
        have hj4 : (j : Int) ≤ 4 := Int.ofNat_le.2 hk4'.out.1
        have hj1' : (1 : Int) ≤ (j : Int) := Int.ofNat_le.2 hk4'.out.2
        go_loopw [10, 13] (fun bw iv wr => ∃ (q : Nat), q ≤ j ∧ iv = .int .i64 ((q : Int) - 1) ∧ Own wr w.heap.size bw (f :: UInt8.ofNat (128 + j) :: sofar n j q) ∧ Below w.heap.size w wr) (fun _ iv _ => (intOf iv + 1).toNat)
        case atStart => exact ⟨j, Nat.le_refl _, by rw [w_sub1 j hk4'.out.1], by rw [sofar_start]; exact hown1, HB⟩
        case round =>
          obtain ⟨q, hq, rfl, hown2, HB2⟩ := hrel
          clear hown1 HB hown
          cases q with
          | zero =>
            have hfin : Hid (Own wr w.heap.size u10 (f :: lenB n)) := by
              unfold Hid
              rw [hlb.out]
              rw [sofar_end] at hown2
              exact hown2
            clear hown2
            go_wp2_with fail
            go_ret
            exact ⟨_, rfl, hfin.out, HB2⟩
          | succ q =>
            have hki : (((q + 1 : Nat) : Int)) - 1 = (q : Int) := by omega
            rw [hki]
            have hq4 : q ≤ 4 := Nat.le_trans (Nat.le_of_succ_le hq) hk4'.out.1
            have q0 : (0 : Int) ≤ (q : Int) := Int.natCast_nonneg _
            have hqw' : Hid (wrap64 ((q : Int) - 1) = (q : Int) - 1) := w_sub1 q hq4
            obtain ⟨bl, hbl⟩ : ∃ bl, sofar n j (q + 1) = bl := ⟨_, rfl⟩
            rw [hbl] at hown2
            obtain ⟨hsn, hln⟩ := sofar_facts n j q bl f (UInt8.ofNat (128 + j)) hq hk4'.out.1 hbl
            have hqj : Hid (q ≤ j) := Nat.le_of_succ_le hq
            clear hki hq hbl
            go_wp2_with fail
            go_loopw [14, 15] (fun dw jv wr2 => ∃ (e : Nat), e ≤ q ∧ jv = .int .i64 (e : Int) ∧ dw = .int .i64 ((dv n e : Nat) : Int) ∧ wr = wr2) (fun _ jv _ => q - (intOf jv).toNat)
            case atStart => exact ⟨0, Nat.zero_le _, rfl, by rw [dv_zero], rfl⟩
            case round =>
              obtain ⟨e, he, rfl, rfl, rfl⟩ := hrel
              by_cases hlt : e < q
              · have hwe' : Hid (wrap64 ((e : Int) + 1) = ((e + 1 : Nat) : Int)) := w_add1 e (Nat.le_trans (Nat.le_trans he hq4) (by decide))
                have htd : ((dv n e : Nat) : Int).tdiv 256 = ((dv n (e + 1) : Nat) : Int) := by rw [tdiv_n, dv_next]
                have hwd : wrap64 ((dv n (e + 1) : Nat) : Int) = ((dv n (e + 1) : Nat) : Int) := w_n _ (dv_small n (e + 1) hn'.out)
                have hlt' : Hid (e < q) := hlt
                obtain ⟨D, hD⟩ : ∃ D : Int, ((dv n e : Nat) : Int) = D := ⟨_, rfl⟩
                obtain ⟨D2, hD2⟩ : ∃ D2 : Int, ((dv n (e + 1) : Nat) : Int) = D2 := ⟨_, rfl⟩
                rw [hD, hD2] at htd
                rw [hD2] at hwd
                rw [hD]
                have hD2' : Hid (((dv n (e + 1) : Nat) : Int) = D2) := hD2
                have hwd' : Hid (wrap64 D2 = D2) := hwd
                clear hD hD2 hown2 hln hsn
                go_wp2_with fail
                go_roundw
                case rel => exact ⟨e + 1, hlt'.out, by rw [cast_1], by rw [hD2'.out, hwd'.out], trivial⟩
                case measure => exact meas_k2 q e hlt'.out
              · have heq : e = q := Nat.le_antisymm he (Nat.le_of_not_lt hlt)
                subst heq
                have htm := tmod_lo (dv n e)
                obtain ⟨D, hD⟩ : ∃ D : Int, ((dv n e : Nat) : Int) = D := ⟨_, rfl⟩
                rw [hD] at htm hsn
                rw [hD]
                clear hD
                go_wp2_with (at_builtin; refine push_byte _ rfl _ _ rfl w.heap.size _ (f :: UInt8.ofNat (128 + j) :: bl) (lo D) rfl rfl ?_ ?_ ?_ ?_; (exact hown2); (exact HB2.size); (exact hln.out); intro v3 w3 hown3 hb3)
                go_roundw
                case rel => exact ⟨e, hqj.out, rfl, by rw [hsn.out]; exact hown3, HB2.trans hb3⟩
                case measure => exact meas_i e
end Go.Proofs.YtkiidlnimjjnlaaDoor
