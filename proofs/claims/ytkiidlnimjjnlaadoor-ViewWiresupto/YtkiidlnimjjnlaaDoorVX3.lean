import Derived.Test.YtkiidlnimjjnlaaDoorVX1
import Derived.Test.YtkiidlnimjjnlaaDoorBIX
namespace Go.Proofs.YtkiidlnimjjnlaaDoor
namespace Vr
open Go.RowKit
set_option linter.unusedVariables false

/-- What take answers, and what is left. -/
def tk (f : Nd) : List Nd → ByteArray × Bool × List Nd
  | [] => (⟨#[]⟩, false, [])
  | e :: r => if frm f e = true then (e.body, true, r) else (⟨#[]⟩, false, e :: r)
theorem tk_cons (f e : Nd) (r : List Nd) : tk f (e :: r) = if frm f e = true then (e.body, true, r) else (⟨#[]⟩, false, e :: r) := rfl
theorem take_any (g : Nat) (f : Nd) (l : List Nd) (w : World) (h : Rdr w g l) :
    Calls Tryd.prog 29 #[.pointer (some ⟨g, 0, none⟩), ndA f] w fun r w' => r = .returned (.tuple #[.string (tk f l).1, .bool (tk f l).2.1]) ∧ Rdr w' g (tk f l).2.2 ∧ Ch (fun k => k = g) w w' := by
  cases l with
  | nil => exact (take_none g f w h).mono (fun r w' ⟨h1, h2⟩ => ⟨h1, h.below h2, Ch.of_below h2⟩)
  | cons e l =>
    by_cases hf : frm f e = true
    · have e1 : tk f (e :: l) = (e.body, true, l) := by rw [tk_cons, if_pos hf]
      rw [e1]
      exact take_yes g f e l w h hf
    · have e1 : tk f (e :: l) = (⟨#[]⟩, false, e :: l) := by rw [tk_cons, if_neg hf]
      rw [e1]
      exact (take_other g f e l w h (by simpa using hf)).mono (fun r w' ⟨h1, h2⟩ => ⟨h1, h.below h2, Ch.of_below h2⟩)
/-- Nothing that a key ahead of it would take stands at the front. -/
def nxt (l : List Nd) : Prop := ∀ e r, l = e :: r → frm (nTag 0 ⟨#[]⟩) e = false ∧ frm (nTag 1 ⟨#[]⟩) e = false
theorem tk_rev (v : Bool) (l : List Nd) (h : nxt l) : tk (nTag 1 ⟨#[]⟩) (kV v ++ l) = (if v = true then ffB else ⟨#[]⟩, v, l) := by
  cases v with
  | true => rfl
  | false =>
    cases l with
    | nil => rfl
    | cons e r =>
      have h1 := (h e r rfl).2
      show tk _ (e :: r) = _
      rw [tk_cons, h1]
      rfl
set_option maxRecDepth 100000 in
set_option maxHeartbeats 1000000 in
theorem reverse_any (g : Nat) (v : Bool) (l : List Nd) (w : World) (h : Rdr w g (kV v ++ l)) (hl : nxt l) :
    Calls Tryd.prog 44 #[.pointer (some ⟨g, 0, none⟩)] w fun r w' => r = .returned (.tuple #[.bool v, .bool true]) ∧ Rdr w' g l ∧ Ch (fun k => k = g) w w' := by
  have hT : Hid (∀ W, Calls Tryd.prog 22 #[.int .i64 1] W fun r w' => r = .returned (.agg #[.int .i64 3, .int .i64 2, .bool false, .int .i64 1, .string ⟨#[]⟩]) ∧ Below W.heap.size W w') := fun W => tagged_any 1 W
  have hK : Hid (∀ W, Below w.heap.size w W → Calls Tryd.prog 29 #[.pointer (some ⟨g, 0, none⟩), .agg #[.int .i64 3, .int .i64 2, .bool false, .int .i64 1, .string ⟨#[]⟩]] W fun r w' => r = .returned (.tuple #[.string (if v = true then ffB else ⟨#[]⟩), .bool v]) ∧ Rdr w' g l ∧ Ch (fun k => k = g) W w') := fun W hb => by
    have := take_any g (nTag 1 ⟨#[]⟩) _ W (h.below hb)
    rw [tk_rev v l hl] at this
    exact this
  have hBo : Hid (∀ W, Calls Tryd.prog 58 #[.string ⟨#[255]⟩] W fun r w' => r = .returned (.tuple #[.bool true, .int .i64 0]) ∧ Below W.heap.size W w') := fun W => bool_any W
  clear h hl
  go_enter Tryd.func44, Tryd.ntmps44
  go_wp2_with fail
  refine (hT.out _).mono ?_
  rintro r w1 ⟨rfl, hb1⟩
  have hK1 := hK.out w1 hb1
  have HB1 : Hid (Below w.heap.size w w1) := hb1
  clear hT hK hb1
  go_wp2_with fail
  refine hK1.mono ?_
  rintro r w2 ⟨rfl, hR, hC⟩
  have H : Hid (Rdr w2 g l ∧ Ch (fun k => k = g) w w2) := ⟨hR, (Ch.of_below HB1.out).trans hC⟩
  clear hK1 hR hC HB1
  cases v with
  | false =>
    clear hBo
    go_wp2_with fail
    go_ret2
    exact ⟨rfl, H.out⟩
  | true =>
    simp only [if_true]
    go_wp2_with fail
    refine (hBo.out _).mono ?_
    rintro r w3 ⟨rfl, hb3⟩
    have H3 : Hid (Rdr w3 g l ∧ Ch (fun k => k = g) w w3) := ⟨H.out.1.below hb3, H.out.2.trans (Ch.of_below hb3)⟩
    clear hBo hb3 H
    go_wp2_with fail
    go_ret2
    exact ⟨rfl, H3.out⟩
theorem none_eq {s : ByteArray} (h : s.toList = []) : s = ⟨#[]⟩ := by
  rw [Lib.toList_data] at h
  obtain ⟨⟨d⟩⟩ := s
  simp at h
  subst h
  rfl
theorem tk_rule (r : ByteArray) (v : Bool) (l : List Nd) (h : nxt l) : tk (nTag 0 ⟨#[]⟩) (kR r ++ (kV v ++ l)) = (r, !(decide (r.toList = [])), kV v ++ l) := by
  unfold kR
  by_cases hr : r.toList = []
  · rw [if_pos hr, decide_eq_true hr]
    have hr' := none_eq hr
    subst hr'
    cases v with
    | true => rfl
    | false =>
      cases l with
      | nil => rfl
      | cons e q =>
        have h1 := (h e q rfl).1
        show tk _ (e :: q) = _
        rw [tk_cons, h1]
        rfl
  · rw [if_neg hr, decide_eq_false hr]
    rfl
end Vr
end Go.Proofs.YtkiidlnimjjnlaaDoor

namespace Go.Proofs.YtkiidlnimjjnlaaDoor
namespace Vr
open Go.RowKit
set_option linter.unusedVariables false

/-- What a truth's content says; is it one? -/
def bvV (s : ByteArray) : Bool := if h : s.size = 1 then !(((s[0]'(by omega)).toNat : Int) == 0) else false
def bvE (s : ByteArray) : Int := if s.size = 1 then 0 else 29
theorem boolV_eq (s : ByteArray) : boolV s = .tuple #[.bool (bvV s), .int .i64 (bvE s)] := by
  unfold boolV bvV bvE
  by_cases h : s.size = 1
  · rw [dif_pos h, dif_pos h, if_pos h]
  · rw [dif_neg h, dif_neg h, if_neg h]
/-- What the node of a turned key says: the truth, is it sound, what is left. -/
def rvF (l : List Nd) : Bool × Bool × List Nd := if (tk (nTag 1 ⟨#[]⟩) l).2.1 = true then (bvV (tk (nTag 1 ⟨#[]⟩) l).1, bvE (tk (nTag 1 ⟨#[]⟩) l).1 == 0, (tk (nTag 1 ⟨#[]⟩) l).2.2) else (false, true, (tk (nTag 1 ⟨#[]⟩) l).2.2)
set_option maxRecDepth 100000 in
set_option maxHeartbeats 1000000 in
theorem reverse_gen (g : Nat) (l : List Nd) (w : World) (h : Rdr w g l) :
    Calls Tryd.prog 44 #[.pointer (some ⟨g, 0, none⟩)] w fun r w' => r = .returned (.tuple #[.bool (rvF l).1, .bool (rvF l).2.1]) ∧ Rdr w' g (rvF l).2.2 ∧ Ch (fun k => k = g) w w' := by
  have hT : Hid (∀ W, Calls Tryd.prog 22 #[.int .i64 1] W fun r w' => r = .returned (.agg #[.int .i64 3, .int .i64 2, .bool false, .int .i64 1, .string ⟨#[]⟩]) ∧ Below W.heap.size W w') := fun W => tagged_any 1 W
  have hK0 : ∀ W, Below w.heap.size w W → Calls Tryd.prog 29 #[.pointer (some ⟨g, 0, none⟩), .agg #[.int .i64 3, .int .i64 2, .bool false, .int .i64 1, .string ⟨#[]⟩]] W fun r w' => r = .returned (.tuple #[.string (tk (nTag 1 ⟨#[]⟩) l).1, .bool (tk (nTag 1 ⟨#[]⟩) l).2.1]) ∧ Rdr w' g (tk (nTag 1 ⟨#[]⟩) l).2.2 ∧ Ch (fun k => k = g) W w' := fun W hb => take_any g (nTag 1 ⟨#[]⟩) _ W (h.below hb)
  unfold rvF
  obtain ⟨⟨bd, there, rest⟩, htk⟩ : ∃ x, tk (nTag 1 ⟨#[]⟩) l = x := ⟨_, rfl⟩
  rw [htk] at hK0 ⊢
  have hK : Hid (∀ W, Below w.heap.size w W → Calls Tryd.prog 29 #[.pointer (some ⟨g, 0, none⟩), .agg #[.int .i64 3, .int .i64 2, .bool false, .int .i64 1, .string ⟨#[]⟩]] W fun r w' => r = .returned (.tuple #[.string bd, .bool there]) ∧ Rdr w' g rest ∧ Ch (fun k => k = g) W w') := hK0
  have hBo : Hid (∀ W, Calls Tryd.prog 58 #[.string bd] W fun r w' => r = .returned (.tuple #[.bool (bvV bd), .int .i64 (bvE bd)]) ∧ W = w') := fun W => by have := Go.Proofs.YtkiidlnimjjnlaaDoor.bool_any bd W; rw [boolV_eq] at this; exact this
  dsimp only
  generalize bvE bd = eb at hBo ⊢
  generalize bvV bd = vb at hBo ⊢
  clear h hK0 htk
  go_enter Tryd.func44, Tryd.ntmps44
  go_wp2_with fail
  refine (hT.out _).mono ?_
  rintro r w1 ⟨rfl, hb1⟩
  have hK1 := hK.out w1 hb1
  have HB1 : Hid (Below w.heap.size w w1) := hb1
  clear hT hK hb1
  go_wp2_with fail
  refine hK1.mono ?_
  rintro r w2 ⟨rfl, hR, hC⟩
  have H : Hid (Rdr w2 g rest ∧ Ch (fun k => k = g) w w2) := ⟨hR, (Ch.of_below HB1.out).trans hC⟩
  clear hK1 hR hC HB1
  cases there with
  | false =>
    clear hBo
    go_wp2_with fail
    go_ret2
    exact ⟨rfl, H.out⟩
  | true =>
    go_wp2_with fail
    refine (hBo.out _).mono ?_
    rintro r w3 ⟨rfl, rfl⟩
    clear hBo
    go_wp2_with fail
    all_goals go_ret2
    all_goals exact ⟨by simp_all, H.out⟩
/-- A key of the nodes at the front, and what is left. -/
def kF (l : List Nd) : Option (Ky × List Nd) :=
  if ((tk (nSeq 2) l).2.1 && ((tk (nOct 3 ⟨#[]⟩) (tk (nSeq 2) l).2.2).2.1 && ((rvF (tk (nTag 0 ⟨#[]⟩) (tk (nOct 3 ⟨#[]⟩) (tk (nSeq 2) l).2.2).2.2).2.2).2.1 && ((tk (nTag 0 ⟨#[]⟩) (tk (nOct 3 ⟨#[]⟩) (tk (nSeq 2) l).2.2).2.2).2.1 == !((tk (nTag 0 ⟨#[]⟩) (tk (nOct 3 ⟨#[]⟩) (tk (nSeq 2) l).2.2).2.2).1.toList == []) && (utf (tk (nOct 3 ⟨#[]⟩) (tk (nSeq 2) l).2.2).1 && utf (tk (nTag 0 ⟨#[]⟩) (tk (nOct 3 ⟨#[]⟩) (tk (nSeq 2) l).2.2).2.2).1))))) = true
  then some (((tk (nOct 3 ⟨#[]⟩) (tk (nSeq 2) l).2.2).1, (tk (nTag 0 ⟨#[]⟩) (tk (nOct 3 ⟨#[]⟩) (tk (nSeq 2) l).2.2).2.2).1, (rvF (tk (nTag 0 ⟨#[]⟩) (tk (nOct 3 ⟨#[]⟩) (tk (nSeq 2) l).2.2).2.2).2.2).1), (rvF (tk (nTag 0 ⟨#[]⟩) (tk (nOct 3 ⟨#[]⟩) (tk (nSeq 2) l).2.2).2.2).2.2).2.2) else none
/-- What key answers. -/
def KyQ (g : Nat) (l : List Nd) (w : World) (e : Ending) (w' : World) : Prop := ∃ (k : Ky) (ok : Bool), e = .returned (.tuple #[.agg #[.string k.1, .string k.2.1, .bool k.2.2], .bool ok]) ∧ ((ok = true ∧ ∃ l', kF l = some (k, l') ∧ Rdr w' g l') ∨ (ok = false ∧ kF l = none)) ∧ Ch (fun k => k = g) w w'
theorem results_ct {fn : Func} {t u : Tmp} {ty : TypeId} (h : fn.results = #[.cell t ty, .tmp u]) (tmps : Array Value) (P : Program) (w : World) (p : Addr) (x : Value) (hp : tmps.getD t undef = .pointer (some p)) (hl : (loadVar ty p).run P w = .ok x w) :
    (results fn tmps).run P w = .ok (.tuple #[x, tmps.getD u undef]) w := by
  have hp' : tmps[t]?.getD undef = .pointer (some p) := by rw [← hp]; simp
  simp [results, h, hp', asAddr, hl, Result.andThen]
theorem ld_key {W : World} {g : Nat} {a b c : Value} (h : Box W g 25 #[a, b, c]) : (loadVar 25 ⟨g, 0, none⟩).run Tryd.prog W = .ok (.agg #[a, b, c]) W :=
  run_loadVar_row W g 25 25 _ (0, 0) _ h Tryd.underlying25 rfl (by kernel_rfl)
theorem ch_newer {ks : Nat → Prop} {w W : World} (h : Ch ks w W) (p : Addr) (v : Value) (hp : w.heap.size ≤ p.block) : Ch ks w (W.setCell p v) :=
  ⟨h.1, h.2.1, h.2.2.1, by rw [World.size_setCell]; exact h.2.2.2.1, fun k hk hn => (Below.heap_setCell _ _ _ _ (by omega)).trans (h.2.2.2.2 k hk hn)⟩
theorem tk_le (f : Nd) (l : List Nd) (h : ∀ e ∈ l, e.body.size ≤ 1048576) : (tk f l).1.size ≤ 1048576 ∧ ∀ e ∈ (tk f l).2.2, e.body.size ≤ 1048576 := by
  cases l with
  | nil => exact ⟨Nat.zero_le _, fun e he => by simp [tk] at he⟩
  | cons x r =>
    rw [tk_cons]
    split
    · exact ⟨h x (List.mem_cons_self ..), fun e he => h e (List.mem_cons_of_mem _ he)⟩
    · exact ⟨Nat.zero_le _, h⟩
set_option maxRecDepth 100000 in
set_option maxHeartbeats 8000000 in
theorem key_gen (g : Nat) (l : List Nd) (w : World) (h : Rdr w g l) (hz : ∀ e ∈ l, e.body.size ≤ 1048576) :
    Calls Tryd.prog 31 #[.pointer (some ⟨g, 0, none⟩)] w fun r w' => KyQ g l w r w' := by
  obtain ⟨Wk, hWk⟩ : ∃ W, w.alloc (.cells #[.string ⟨#[]⟩, .string ⟨#[]⟩, .bool false] 25) = W := ⟨_, rfl⟩
  have hgl : g < w.heap.size := by obtain ⟨a, c, hb, _⟩ := h; exact hb.lt
  have hX : Hid (Below w.heap.size w Wk ∧ Box Wk w.heap.size 25 #[.string ⟨#[]⟩, .string ⟨#[]⟩, .bool false] ∧ g < w.heap.size) := by
    rw [← hWk]
    exact ⟨(Below.refl _ _).alloc (Nat.le_refl _) _, Box.new _ _ _, hgl⟩
  have h0 : Hid (Rdr Wk g l) := h.below hX.out.1
  have hS : Hid (∀ W, Calls Tryd.prog 18 #[.int .i64 2] W fun r w' => r = .returned (.agg #[.int .i64 2, .int .i64 0, .bool true, .int .i64 16, .string ⟨#[]⟩]) ∧ Below W.heap.size W w') := fun W => sequence_any 2 W
  have hO : Hid (∀ W, Calls Tryd.prog 21 #[.int .i64 3] W fun r w' => r = .returned (.agg #[.int .i64 3, .int .i64 0, .bool false, .int .i64 4, .string ⟨#[]⟩]) ∧ Below W.heap.size W w') := fun W => octets_any 3 W
  have hT : Hid (∀ W, Calls Tryd.prog 22 #[.int .i64 0] W fun r w' => r = .returned (.agg #[.int .i64 3, .int .i64 2, .bool false, .int .i64 0, .string ⟨#[]⟩]) ∧ Below W.heap.size W w') := fun W => tagged_any 0 W
  have hkF : kF l = kF l := rfl
  conv at hkF => rhs; unfold kF
  have q1 := fun W (h : Rdr W g l) => take_any g (nSeq 2) l W h
  have s1 := tk_le (nSeq 2) l hz
  obtain ⟨⟨b1, t1, l1⟩, e1⟩ : ∃ x, tk (nSeq 2) l = x := ⟨_, rfl⟩
  rw [e1] at hkF q1 s1
  dsimp only at hkF q1 s1
  have q2 := fun W (h : Rdr W g l1) => take_any g (nOct 3 ⟨#[]⟩) l1 W h
  have s2 := tk_le (nOct 3 ⟨#[]⟩) l1 s1.2
  obtain ⟨⟨d, t2, l2⟩, e2⟩ : ∃ x, tk (nOct 3 ⟨#[]⟩) l1 = x := ⟨_, rfl⟩
  rw [e2] at hkF q2 s2
  dsimp only at hkF q2 s2
  have q3 := fun W (h : Rdr W g l2) => take_any g (nTag 0 ⟨#[]⟩) l2 W h
  have s3 := tk_le (nTag 0 ⟨#[]⟩) l2 s2.2
  obtain ⟨⟨r, t3, l3⟩, e3⟩ : ∃ x, tk (nTag 0 ⟨#[]⟩) l2 = x := ⟨_, rfl⟩
  rw [e3] at hkF q3 s3
  dsimp only at hkF q3 s3
  have q4 := fun W (h : Rdr W g l3) => reverse_gen g l3 W h
  obtain ⟨⟨v, sd, l4⟩, e4⟩ : ∃ x, rvF l3 = x := ⟨_, rfl⟩
  rw [e4] at hkF q4
  dsimp only at hkF q4
  have k1 : Hid (∀ W, Rdr W g l → Calls Tryd.prog 29 #[.pointer (some ⟨g, 0, none⟩), .agg #[.int .i64 2, .int .i64 0, .bool true, .int .i64 16, .string ⟨#[]⟩]] W fun e w' => e = .returned (.tuple #[.string b1, .bool t1]) ∧ Rdr w' g l1 ∧ Ch (fun k => k = g) W w') := q1
  have k2 : Hid (∀ W, Rdr W g l1 → Calls Tryd.prog 29 #[.pointer (some ⟨g, 0, none⟩), .agg #[.int .i64 3, .int .i64 0, .bool false, .int .i64 4, .string ⟨#[]⟩]] W fun e w' => e = .returned (.tuple #[.string d, .bool t2]) ∧ Rdr w' g l2 ∧ Ch (fun k => k = g) W w') := q2
  have k3 : Hid (∀ W, Rdr W g l2 → Calls Tryd.prog 29 #[.pointer (some ⟨g, 0, none⟩), .agg #[.int .i64 3, .int .i64 2, .bool false, .int .i64 0, .string ⟨#[]⟩]] W fun e w' => e = .returned (.tuple #[.string r, .bool t3]) ∧ Rdr w' g l3 ∧ Ch (fun k => k = g) W w') := q3
  have k4 : Hid (∀ W, Rdr W g l3 → Calls Tryd.prog 44 #[.pointer (some ⟨g, 0, none⟩)] W fun e w' => e = .returned (.tuple #[.bool v, .bool sd]) ∧ Rdr w' g l4 ∧ Ch (fun k => k = g) W w') := q4
  have k5 : Hid (∀ W, Calls Tryd.prog 19 #[.string d] W fun e w' => e = .returned (.bool (utf d)) ∧ w' = W) := fun W => isUTF8_any d W (Nat.le_trans s2.1 (by unfold maxLen; decide))
  have k6 : Hid (∀ W, Calls Tryd.prog 19 #[.string r] W fun e w' => e = .returned (.bool (utf r)) ∧ w' = W) := fun W => isUTF8_any r W (Nat.le_trans s3.1 (by unfold maxLen; decide))
  generalize utf d = ud at hkF k5
  generalize utf r = ur at hkF k6
  obtain ⟨qb, hqb⟩ : ∃ b, (r.toList == []) = b := ⟨_, rfl⟩
  rw [hqb] at hkF
  have HK : Hid (kF l = if (t1 && (t2 && (sd && (t3 == !qb && (ud && ur))))) = true then some ((d, r, v), l4) else none) := hkF
  have hq' : Hid ((r.toList == []) = qb) := hqb
  clear h hz hgl q1 q2 q3 q4 s1 s2 s3 e1 e2 e3 e4 hkF hqb
  go_enter Tryd.func31, Tryd.ntmps31
  go_upto_region 1 with fail
  clear hWk
  generalize hqq : w.heap.size = q at hX ⊢
  have hqq' : Hid (w.heap.size = q) := hqq
  clear hqq
  go_wp2_with fail
  refine (hS.out _).mono ?_
  rintro e w1 ⟨rfl, hb1⟩
  have K1 := k1.out w1 (h0.out.below hb1)
  have C1 : Hid (Ch (fun k => k = g) Wk w1) := Ch.of_below hb1
  clear hS k1 hb1 h0
  go_wp2_with fail
  refine K1.mono ?_
  rintro e w2 ⟨rfl, hR, hC⟩
  have H2 : Hid (Rdr w2 g l1 ∧ Ch (fun k => k = g) Wk w2) := ⟨hR, C1.out.trans hC⟩
  clear K1 hR hC C1
  go_wp2_with fail
  refine (hO.out _).mono ?_
  rintro e w3 ⟨rfl, hb3⟩
  have K2 := k2.out w3 (H2.out.1.below hb3)
  have C3 : Hid (Ch (fun k => k = g) Wk w3) := H2.out.2.trans (Ch.of_below hb3)
  clear hO k2 hb3 H2
  go_wp2_with fail
  refine K2.mono ?_
  rintro e w4 ⟨rfl, hR, hC⟩
  have H4 : Hid (Rdr w4 g l2 ∧ Ch (fun k => k = g) Wk w4) := ⟨hR, C3.out.trans hC⟩
  clear K2 hR hC C3
  go_wp2_with fail
  refine (hT.out _).mono ?_
  rintro e w5 ⟨rfl, hb5⟩
  have K3 := k3.out w5 (H4.out.1.below hb5)
  have C5 : Hid (Ch (fun k => k = g) Wk w5) := H4.out.2.trans (Ch.of_below hb5)
  clear hT k3 hb5 H4
  go_wp2_with fail
  refine K3.mono ?_
  rintro e w6 ⟨rfl, hR, hC⟩
  have C6 : Hid (Ch (fun k => k = g) Wk w6) := C5.out.trans hC
  have K4 := k4.out w6 hR
  clear K3 hR hC C5 k4
  go_wp2_with fail
  refine K4.mono ?_
  rintro e w7 ⟨rfl, hR, hC⟩
  have H7 : Hid (Rdr w7 g l4 ∧ Ch (fun k => k = g) Wk w7) := ⟨hR, C6.out.trans hC⟩
  clear K4 hR hC C6
  have b7 : Hid (Box w7 q 25 #[.string ⟨#[]⟩, .string ⟨#[]⟩, .bool false]) := by
    refine hX.out.2.1.of (H7.out.2.2.2.2.2 q hX.out.2.1.lt (fun e => ?_))
    have := hX.out.2.2
    have := hqq'.out
    omega
  have hfin : Hid (Rdr (((w7.setCell ⟨q, 0, none⟩ (.string d)).setCell ⟨q, 1, none⟩ (.string r)).setCell ⟨q, 2, none⟩ (.bool v)) g l4 ∧ Ch (fun k => k = g) w (((w7.setCell ⟨q, 0, none⟩ (.string d)).setCell ⟨q, 1, none⟩ (.string r)).setCell ⟨q, 2, none⟩ (.bool v)) ∧ Box (((w7.setCell ⟨q, 0, none⟩ (.string d)).setCell ⟨q, 1, none⟩ (.string r)).setCell ⟨q, 2, none⟩ (.bool v)) q 25 #[.string d, .string r, .bool v]) := by
    have hs := hqq'.out
    have hg := hX.out.2.2
    refine ⟨((H7.out.1.far q 0 _ (by omega)).far q 1 _ (by omega)).far q 2 _ (by omega), ch_newer (ch_newer (ch_newer ((Ch.of_below (hs ▸ hX.out.1)).trans H7.out.2) _ _ (by show w.heap.size ≤ q; omega)) _ _ (by show w.heap.size ≤ q; omega)) _ _ (by show w.heap.size ≤ q; omega), ((b7.out.set 0 _).set 1 _).set 2 _⟩
  obtain ⟨c0, z0⟩ := b7.out.cell 0 (by simp)
  obtain ⟨c1, z1⟩ := b7.out.cell 1 (by simp)
  obtain ⟨c2, z2⟩ := b7.out.cell 2 (by simp)
  simp only [List.getElem_toArray, List.getElem_cons_zero, List.getElem_cons_succ] at c0 c1 c2
  have hq1 := hq'.out
  clear hX b7 H7 hqq' hq'
  cases t1 with
  | false =>
    clear k5 k6
    go_wp2_with fail
    all_goals exact bodyPost_ret (results_ct rfl _ _ _ _ _ rfl (ld_key hfin.out.2.2)) rfl ⟨(d, r, v), false, rfl, Or.inr ⟨rfl, by rw [HK.out]; rfl⟩, hfin.out.2.1⟩
  | true =>
    cases t2 with
    | false =>
      clear k5 k6
      go_wp2_with fail
      all_goals exact bodyPost_ret (results_ct rfl _ _ _ _ _ rfl (ld_key hfin.out.2.2)) rfl ⟨(d, r, v), false, rfl, Or.inr ⟨rfl, by rw [HK.out]; rfl⟩, hfin.out.2.1⟩
    | true =>
      cases sd with
      | false =>
        clear k5 k6
        go_wp2_with fail
        all_goals exact bodyPost_ret (results_ct rfl _ _ _ _ _ rfl (ld_key hfin.out.2.2)) rfl ⟨(d, r, v), false, rfl, Or.inr ⟨rfl, by rw [HK.out]; rfl⟩, hfin.out.2.1⟩
      | true =>
        have key2 : t3 = !qb ∨ t3 = qb := by cases t3 <;> cases qb <;> simp
        rcases key2 with h3 | h3
        · subst h3
          cases qb
          all_goals
            go_wp2_with fail
            refine (k5.out _).mono ?_
            rintro e w8 ⟨rfl, rfl⟩
            clear k5
            cases ud with
            | false =>
              clear k6
              go_wp2_with fail
              exact bodyPost_ret (results_ct rfl _ _ _ _ _ rfl (ld_key hfin.out.2.2)) rfl ⟨(d, r, v), false, rfl, Or.inr ⟨rfl, by rw [HK.out]; rfl⟩, hfin.out.2.1⟩
            | true =>
              go_wp2_with fail
              refine (k6.out _).mono ?_
              rintro e w9 ⟨rfl, rfl⟩
              clear k6
              cases ur with
              | false =>
                go_wp2_with fail
                exact bodyPost_ret (results_ct rfl _ _ _ _ _ rfl (ld_key hfin.out.2.2)) rfl ⟨(d, r, v), false, rfl, Or.inr ⟨rfl, by rw [HK.out]; rfl⟩, hfin.out.2.1⟩
              | true =>
                go_wp2_with fail
                exact bodyPost_ret (results_ct rfl _ _ _ _ _ rfl (ld_key hfin.out.2.2)) rfl ⟨(d, r, v), true, rfl, Or.inl ⟨rfl, l4, by rw [HK.out]; rfl, hfin.out.1⟩, hfin.out.2.1⟩
        · subst h3
          clear k5 k6
          cases t3
          all_goals
            go_wp2_with fail
            exact bodyPost_ret (results_ct rfl _ _ _ _ _ rfl (ld_key hfin.out.2.2)) rfl ⟨(d, r, v), false, rfl, Or.inr ⟨rfl, by rw [HK.out]; rfl⟩, hfin.out.2.1⟩
end Vr
end Go.Proofs.YtkiidlnimjjnlaaDoor

namespace Go.Proofs.YtkiidlnimjjnlaaDoor
namespace Vr
open Go.RowKit
open BerMath (okInt val)
set_option linter.unusedVariables false

theorem Rdr.under {w w' : World} {g : Nat} {l : List Nd} (h : Rdr w g l) (hb : Below (g + 1) w w') : Rdr w' g l := by
  obtain ⟨a, c, h1, h2, h3, h4⟩ := h
  refine ⟨a, c, h1.of (hb.block g (Nat.lt_succ_self _)), fun i hi => ?_, h3, h4⟩
  obtain ⟨b, off, e, x0, x1, x2, x3, x4⟩ := h2 i hi
  have hlt : b < g + 1 := Nat.lt_succ_of_lt (h4 _ e)
  exact ⟨b, off, e, (hb.cell hlt).trans x0, (hb.cell hlt).trans x1, (hb.cell hlt).trans x2, (hb.cell hlt).trans x3, (hb.cell hlt).trans x4⟩
def slN : Value → Nat
  | .slice _ n _ => n
  | _ => 0
theorem tk_len (f : Nd) (l : List Nd) : (tk f l).2.2.length ≤ l.length ∧ ((tk f l).2.1 = true → (tk f l).2.2.length < l.length) := by
  cases l with
  | nil => exact ⟨Nat.le_refl _, fun h => by simp [tk] at h⟩
  | cons x r =>
    rw [tk_cons]
    split
    · exact ⟨by simp, fun _ => by simp⟩
    · exact ⟨Nat.le_refl _, fun h => by simp at h⟩
theorem rvF_len (l : List Nd) : (rvF l).2.2.length ≤ l.length := by
  unfold rvF
  split <;> exact (tk_len _ l).1
theorem rvF_le (l : List Nd) (h : ∀ e ∈ l, e.body.size ≤ 1048576) : ∀ e ∈ (rvF l).2.2, e.body.size ≤ 1048576 := by
  unfold rvF
  split <;> exact (tk_le _ l h).2
theorem kF_some {l l' : List Nd} {k : Ky} (h : kF l = some (k, l')) : l'.length < l.length ∧ ((∀ e ∈ l, e.body.size ≤ 1048576) → ∀ e ∈ l', e.body.size ≤ 1048576) := by
  unfold kF at h
  split at h
  · rename_i hc
    rw [Bool.and_eq_true] at hc
    injection h with h
    injection h with _ h
    subst h
    have a1 := tk_len (nSeq 2) l
    have a2 := tk_len (nOct 3 ⟨#[]⟩) (tk (nSeq 2) l).2.2
    have a3 := tk_len (nTag 0 ⟨#[]⟩) (tk (nOct 3 ⟨#[]⟩) (tk (nSeq 2) l).2.2).2.2
    have a4 := rvF_len (tk (nTag 0 ⟨#[]⟩) (tk (nOct 3 ⟨#[]⟩) (tk (nSeq 2) l).2.2).2.2).2.2
    have a5 := a1.2 hc.1
    refine ⟨by omega, fun hz => rvF_le _ (tk_le _ _ (tk_le _ _ (tk_le _ _ hz).2).2).2⟩
  · cases h
/-- The keys of the nodes. -/
def dkF : Nat → List Nd → Option (List Ky)
  | 0, l => if l = [] then some [] else none
  | n + 1, l => if l = [] then some [] else match kF l with
    | some p => (dkF n p.2).map (fun ks => p.1 :: ks)
    | none => none
theorem dkF_nil (n : Nat) : dkF n [] = some [] := by cases n <;> rfl
theorem dkF_none (n : Nat) (l : List Nd) (h : l ≠ []) (hk : kF l = none) : dkF n l = none := by
  cases n with
  | zero => unfold dkF; rw [if_neg h]
  | succ n => unfold dkF; rw [if_neg h, hk]
theorem dkF_some (n : Nat) (l l' : List Nd) (k : Ky) (h : l ≠ []) (hk : kF l = some (k, l')) : dkF (n + 1) l = (dkF n l').map (fun ks => k :: ks) := by
  conv => lhs; unfold dkF
  rw [if_neg h, hk]
def dkP (l : List Nd) : Option (List Ky) := if (tk (nSeq 1) l).2.1 = true then dkF (tk (nSeq 1) l).2.2.length (tk (nSeq 1) l).2.2 else none
/-- What DecodeKeys answers. -/
def DkQ (R : Option (List Ky)) (w : World) (e : Ending) (w' : World) : Prop := ((∃ ks v, R = some ks ∧ e = .returned (.tuple #[v, .int .i64 0]) ∧ GOwn 25 3 kyV w' w.heap.size v ks) ∨ (R = none ∧ e = .returned (.tuple #[.slice none 0 0, .int .i64 224]))) ∧ Below w.heap.size w w'
/-- What stands while the keys are read. -/
def DgI (w : World) (g : Nat) (R : Option (List Ky)) (out : List Ky) (rest : List Nd) (v : Value) (W : World) : Prop := Rdr W g rest ∧ GOwn 25 3 kyV W (g + 1) v out ∧ Below w.heap.size w W ∧ w.heap.size ≤ g ∧ R = (dkF rest.length rest).map (fun ks => out ++ ks) ∧ out.length + rest.length ≤ 1048576 ∧ ∀ e ∈ rest, e.body.size ≤ 1048576
theorem dkF_more : ∀ (n m : Nat) (l : List Nd), l.length ≤ n → l.length ≤ m → dkF n l = dkF m l := by
  intro n
  induction n with
  | zero =>
    intro m l h1 h2
    have h0 : l = [] := List.eq_nil_of_length_eq_zero (by omega)
    subst h0
    rw [dkF_nil, dkF_nil]
  | succ n ih =>
    intro m l h1 h2
    by_cases hl : l = []
    · subst hl
      rw [dkF_nil, dkF_nil]
    · cases hk : kF l with
      | none => rw [dkF_none _ _ hl hk, dkF_none _ _ hl hk]
      | some p =>
        obtain ⟨k, l'⟩ := p
        have hlt := (kF_some hk).1
        have hpos : 0 < l.length := List.length_pos_iff.2 hl
        obtain ⟨m', rfl⟩ : ∃ m', m = m' + 1 := ⟨m - 1, by omega⟩
        rw [dkF_some n l l' k hl hk, dkF_some m' l l' k hl hk, ih m' l' (by omega) (by omega)]
set_option maxRecDepth 100000 in
set_option maxHeartbeats 4000000 in
theorem decodeKeys_gen (s : ByteArray) (l : List Nd) (w : World) (hz : ∀ e ∈ l, e.body.size ≤ 1048576) (hn : l.length ≤ 1048576) (hT : ∀ W, Calls Tryd.prog 43 #[.string s] W fun r w' => (∃ v q1 q2, r = .returned (.tuple #[v, .int .i64 q1, .int .i64 q2]) ∧ OwnN w' W.heap.size v l) ∧ Below W.heap.size W w') :
    Calls Tryd.prog 9 #[.string s] w fun e w' => DkQ (dkP l) w e w' := by
  have hR : Hid (Calls Tryd.prog 28 #[.string s] w fun r w' => (∃ g, r = .returned (.pointer (some ⟨g, 0, none⟩)) ∧ w.heap.size ≤ g ∧ Rdr w' g l) ∧ Below w.heap.size w w') := readerOf_any s w _ hT
  have hS : Hid (∀ W, Calls Tryd.prog 18 #[.int .i64 1] W fun r w' => r = .returned (.agg #[.int .i64 1, .int .i64 0, .bool true, .int .i64 16, .string ⟨#[]⟩]) ∧ Below W.heap.size W w') := fun W => sequence_any 1 W
  have q1 := fun g W (h : Rdr W g l) => take_any g (nSeq 1) l W h
  have hl1 := tk_len (nSeq 1) l
  have hz1 := tk_le (nSeq 1) l hz
  have hP : dkP l = if (tk (nSeq 1) l).2.1 = true then dkF (tk (nSeq 1) l).2.2.length (tk (nSeq 1) l).2.2 else none := rfl
  obtain ⟨⟨b1, t1, l1⟩, e1⟩ : ∃ x, tk (nSeq 1) l = x := ⟨_, rfl⟩
  rw [e1] at q1 hl1 hz1 hP
  dsimp only at q1 hl1 hz1 hP
  have k1 : Hid (∀ g W, Rdr W g l → Calls Tryd.prog 29 #[.pointer (some ⟨g, 0, none⟩), .agg #[.int .i64 1, .int .i64 0, .bool true, .int .i64 16, .string ⟨#[]⟩]] W fun e w' => e = .returned (.tuple #[.string b1, .bool t1]) ∧ Rdr w' g l1 ∧ Ch (fun k => k = g) W w') := q1
  have kE : Hid (∀ g W l, Rdr W g l → Calls Tryd.prog 30 #[.pointer (some ⟨g, 0, none⟩)] W fun e w' => e = .returned (.bool (decide (l = []))) ∧ w' = W) := fun g W l h => atEnd_any g l W h
  have kK : Hid (∀ g W l, Rdr W g l → (∀ e ∈ l, e.body.size ≤ 1048576) → Calls Tryd.prog 31 #[.pointer (some ⟨g, 0, none⟩)] W fun r w' => KyQ g l W r w') := fun g W l h hz => key_gen g l W h hz
  have HP : Hid ((t1 = true → dkP l = dkF l1.length l1) ∧ (t1 = false → dkP l = none) ∧ l1.length ≤ 1048576 ∧ ∀ e ∈ l1, e.body.size ≤ 1048576) := ⟨fun h => by rw [hP, if_pos h], fun h => by rw [hP, h]; rfl, by omega, hz1.2⟩
  generalize dkP l = R at HP ⊢
  clear hT hz hn q1 hl1 hz1 hP e1
  go_enter Tryd.func9, Tryd.ntmps9
  go_wp2_with fail
  refine hR.out.mono ?_
  rintro e w1 ⟨⟨g, rfl, hg, hr⟩, hb1⟩
  have H1 : Hid (Rdr w1 g l ∧ Below w.heap.size w w1 ∧ w.heap.size ≤ g) := ⟨hr, hb1, hg⟩
  clear hR hr hb1 hg
  go_wp2_with fail
  refine (hS.out _).mono ?_
  rintro e w2 ⟨rfl, hb⟩
  have H2 : Hid (Ch (fun k => k = g) w1 w2) := Ch.of_below hb
  have K := k1.out g w2 (H1.out.1.below hb)
  clear hS hb k1
  go_wp2_with fail
  refine K.mono ?_
  rintro e w3 ⟨rfl, hr, hb⟩
  have H3 : Hid (Rdr w3 g l1 ∧ Below w.heap.size w w3 ∧ w.heap.size ≤ g) := ⟨hr, H1.out.2.1.trans ((H2.out.trans hb).below H1.out.2.1.size (fun k hk => by rw [hk]; exact H1.out.2.2)), H1.out.2.2⟩
  clear K hb H2 hr H1
  cases t1 with
  | false =>
    have HF : Hid (R = none ∧ Below w.heap.size w w3) := ⟨HP.out.2.1 rfl, H3.out.2.1⟩
    clear kE kK HP H3
    go_wp2_with fail
    go_ret2
    exact ⟨Or.inr ⟨HF.out.1, rfl⟩, HF.out.2⟩
  | true =>
    have HI : Hid (DgI w g R [] l1 (.slice none 0 0) w3) := ⟨H3.out.1, GOwn.nil _ _ _ _ _, H3.out.2.1, H3.out.2.2, by rw [HP.out.1 rfl]; simp, by simpa using HP.out.2.2.1, HP.out.2.2.2⟩
    clear H3 HP
    go_wp2_with fail
    go_loopw [7] (fun lv wr => ∃ (out : List Ky) (rest : List Nd) (n : Nat) (a : Option Addr) (c : Nat), lv = .slice a n c ∧ n = out.length ∧ Hid (DgI w g R out rest (.slice a n c) wr)) (fun lv _ => 1048577 - slN lv)
    case atStart => exact ⟨[], l1, 0, none, 0, rfl, rfl, HI⟩
    case round =>
      obtain ⟨out, rest, n, a, c, rfl, hno, hI⟩ := hrel
      have hno' : Hid (n = out.length) := hno
      clear HI hno
      by_cases hlt : rest = []
      · subst hlt
        have hKE := kE.out g wr _ hI.out.1
        rw [decide_eq_true rfl] at hKE
        have E1 : Hid (Calls Tryd.prog 30 #[.pointer (some ⟨g, 0, none⟩)] wr fun e w' => e = .returned (.bool true) ∧ w' = wr) := hKE
        clear hKE kE kK
        go_wp2_with fail
        refine E1.out.mono ?_
        rintro e w4 ⟨rfl, rfl⟩
        clear E1
        have Hf : Hid (R = some out ∧ GOwn 25 3 kyV w4 w.heap.size (.slice a n c) out ∧ Below w.heap.size w w4) := by
          obtain ⟨i1, i2, i3, i4, i5, _⟩ := hI.out
          refine ⟨?_, owns_base i2 (by omega), i3⟩
          rw [i5, dkF_nil]
          simp
        clear hI
        go_wp2_with fail
        go_ret2
        exact ⟨Or.inl ⟨_, _, Hf.out.1, rfl, Hf.out.2.1⟩, Hf.out.2.2⟩
      · have hKE := kE.out g wr _ hI.out.1
        rw [decide_eq_false hlt] at hKE
        have E1 : Hid (Calls Tryd.prog 30 #[.pointer (some ⟨g, 0, none⟩)] wr fun e w' => e = .returned (.bool false) ∧ w' = wr) := hKE
        have E2 : Hid (Calls Tryd.prog 31 #[.pointer (some ⟨g, 0, none⟩)] wr fun r w' => KyQ g rest wr r w') := kK.out g wr rest hI.out.1 hI.out.2.2.2.2.2.2
        have hne : Hid (rest ≠ []) := hlt
        clear hKE hlt kE kK
        go_wp2_with fail
        refine E1.out.mono ?_
        rintro e w4 ⟨rfl, rfl⟩
        clear E1
        go_wp2_with fail
        refine E2.out.mono ?_
        rintro e w5 ⟨⟨d, r, v⟩, ok, rfl, hq, hc5⟩
        have H5 : Hid (GOwn 25 3 kyV w5 (g + 1) (.slice a n c) out ∧ Below w.heap.size w w5 ∧ w.heap.size ≤ g ∧ g < w5.heap.size) := by
          obtain ⟨i1, i2, i3, i4, _⟩ := hI.out
          have hg : g < w4.heap.size := by obtain ⟨_, _, hb, _⟩ := i1; exact hb.lt
          refine ⟨owns_same i2 (fun k hk => ?_), i3.trans (hc5.below i3.size (fun k hk => by rw [hk]; exact i4)), i4, Nat.lt_of_lt_of_le hg hc5.2.2.2.1⟩
          have hk2 := World.ownsRow.lt (show World.ownsRow _ _ _ _ _ _ _ from i2) k hk
          exact hc5.2.2.2.2 k hk2.2 (fun e => by have := hk2.1; omega)
        clear E2 hc5
        rcases hq with ⟨rfl, l', hkl, hr5⟩ | ⟨rfl, hkl⟩
        · have hN : Hid (Rdr w5 g l' ∧ R = (dkF l'.length l').map (fun ks => (out ++ [(d, r, v)]) ++ ks) ∧ (out ++ [(d, r, v)]).length + l'.length ≤ 1048576 ∧ ∀ e ∈ l', e.body.size ≤ 1048576) := by
            obtain ⟨_, _, _, _, i5, i6, i7⟩ := hI.out
            obtain ⟨j1, j2⟩ := kF_some hkl
            refine ⟨hr5, ?_, by rw [List.length_append, List.length_singleton]; omega, j2 i7⟩
            have hp : 0 < rest.length := List.length_pos_iff.2 hne.out
            obtain ⟨m, hm⟩ : ∃ m, rest.length = m + 1 := ⟨rest.length - 1, by omega⟩
            rw [i5, hm, dkF_some m rest l' _ hne.out hkl, dkF_more m l'.length l' (by omega) (Nat.le_refl _), Option.map_map]
            congr 1
            funext ks
            simp
          clear hkl hr5 hI hne
          obtain ⟨w6, hw6⟩ : ∃ W, w5.alloc (.cells #[.string d, .string r, .bool v] 25) = W := ⟨_, rfl⟩
          have b6 : Box w6 w5.heap.size 25 #[.string d, .string r, .bool v] := by rw [← hw6]; exact Box.new _ _ _
          have e0 : w6.cell? ⟨w5.heap.size, 0, none⟩ = some (.string d) := (b6.cell 0 (by simp)).1
          have e1 : w6.cell? ⟨w5.heap.size, 1, none⟩ = some (.string r) := (b6.cell 1 (by simp)).1
          have e2 : w6.cell? ⟨w5.heap.size, 2, none⟩ = some (.bool v) := (b6.cell 2 (by simp)).1
          obtain ⟨w7, hw7⟩ : ∃ W, w6.alloc (.cells #[.string d, .string r, .bool v] 25) = W := ⟨_, rfl⟩
          have hb57 : Below w5.heap.size w5 w7 := by rw [← hw7, ← hw6]; exact ((Below.refl _ _).alloc (Nat.le_refl _) _).alloc (by simp) _
          have hg7 : GRow 3 kyV w7 (some ⟨w6.heap.size, 0, none⟩) [(d, r, v)] := by rw [← hw7]; exact g_new kyV kyV_len w6 _ [(d, r, v)]
          obtain ⟨v', w8, ra, ro, _, rb⟩ := append_gen KDk w7 (g + 1) (.slice a n c) out [(d, r, v)] _ 1 1 (H5.out.1.below hb57) hg7 rfl (by have := H5.out.2.2.2; have := hb57.size; omega) (by have := hN.out.2.2.1; simp at this ⊢; omega)
          obtain ⟨a', c', hv, _⟩ := ro.row kyV_len
          rw [List.length_append, List.length_singleton, ← hno'.out] at hv
          subst hv
          have H8 : Hid (DgI w g R (out ++ [(d, r, v)]) l' (.slice a' (n + 1) c') w8) := ⟨(hN.out.1.below hb57).under rb, ro, (H5.out.2.1.trans (hb57.mono H5.out.2.1.size)).trans (rb.mono (by have := H5.out.2.2.1; omega)), H5.out.2.2.1, hN.out.2⟩
          have ra' : Hid ((Builtin.append_ #[22, 22] 22 #[.slice a n c, .slice (some ⟨w6.heap.size, 0, none⟩) 1 1]).run Tryd.prog w7 = .ok (.slice a' (n + 1) c') w8) := ra
          have hnb : Hid (n < 1048577) := by have := hN.out.2.2.1; have := hno'.out; simp at *; unfold Hid; omega
          clear b6 hb57 hg7 ro rb H5 ra hN
          go_wp2_with (at_builtin; refine wp_app _ rfl _ _ _ rfl rfl _ _ _ _ rfl rfl ra'.out ?_; clear e0 e1 e2 ra')
          go_roundw
          case rel => exact ⟨_, _, n + 1, a', c', rfl, by rw [hno'.out]; simp, H8⟩
          case measure => have := hnb.out; simp [slN]; omega
        · have Hf : Hid (R = none ∧ Below w.heap.size w w5) := by
            refine ⟨?_, H5.out.2.1⟩
            rw [hI.out.2.2.2.2.1, dkF_none _ _ hne.out hkl]
            rfl
          clear hkl hI hne H5
          go_wp2_with fail
          go_ret2
          exact ⟨Or.inr ⟨Hf.out.1, rfl⟩, Hf.out.2.alloc Hf.out.2.size _⟩
end Vr
end Go.Proofs.YtkiidlnimjjnlaaDoor

namespace Go.Proofs.YtkiidlnimjjnlaaDoor
namespace Vr
open Go.RowKit
open BerMath (okInt val)
set_option linter.unusedVariables false

def iV (s : ByteArray) : Int := if okInt s.data.toList = true then val s.data.toList else 0
def iE (s : ByteArray) : Int := if okInt s.data.toList = true then 0 else 29
theorem intV_eq (s : ByteArray) : intV s.data.toList = .tuple #[.int .i64 (iV s), .int .i64 (iE s)] := by
  unfold intV iV iE
  split <;> rfl
/-- A page's size and cookie. -/
def pgF (l : List Nd) : Option (Int × ByteArray) :=
  if ((tk (nSeq 1) l).2.1 && ((tk (nInt 2 ⟨#[]⟩) (tk (nSeq 1) l).2.2).2.1 && ((tk (nOct 2 ⟨#[]⟩) (tk (nInt 2 ⟨#[]⟩) (tk (nSeq 1) l).2.2).2.2).2.1 && (decide ((tk (nOct 2 ⟨#[]⟩) (tk (nInt 2 ⟨#[]⟩) (tk (nSeq 1) l).2.2).2.2).2.2 = []) && (decide (iE (tk (nInt 2 ⟨#[]⟩) (tk (nSeq 1) l).2.2).1 = 0) && (!decide (iV (tk (nInt 2 ⟨#[]⟩) (tk (nSeq 1) l).2.2).1 < 0) && !decide (2147483647 < iV (tk (nInt 2 ⟨#[]⟩) (tk (nSeq 1) l).2.2).1))))))) = true
  then some (iV (tk (nInt 2 ⟨#[]⟩) (tk (nSeq 1) l).2.2).1, (tk (nOct 2 ⟨#[]⟩) (tk (nInt 2 ⟨#[]⟩) (tk (nSeq 1) l).2.2).2.2).1) else none
/-- What DecodePage answers. -/
def PdQ (R : Option (Int × ByteArray)) (e : Ending) : Prop := (∃ n c, R = some (n, c) ∧ e = .returned (.tuple #[.int .i64 n, .string c, .int .i64 0])) ∨ (R = none ∧ e = .returned (.tuple #[.int .i64 0, .string ⟨#[]⟩, .int .i64 224]))
set_option maxRecDepth 100000 in
set_option maxHeartbeats 8000000 in
theorem decodePage_gen (s : ByteArray) (l : List Nd) (w : World) (hT : ∀ W, Calls Tryd.prog 43 #[.string s] W fun r w' => (∃ v q1 q2, r = .returned (.tuple #[v, .int .i64 q1, .int .i64 q2]) ∧ OwnN w' W.heap.size v l) ∧ Below W.heap.size W w') :
    Calls Tryd.prog 13 #[.string s] w fun e w' => PdQ (pgF l) e ∧ Below w.heap.size w w' := by
  have hR : Hid (Calls Tryd.prog 28 #[.string s] w fun r w' => (∃ g, r = .returned (.pointer (some ⟨g, 0, none⟩)) ∧ w.heap.size ≤ g ∧ Rdr w' g l) ∧ Below w.heap.size w w') := readerOf_any s w _ hT
  have hS : Hid (∀ W, Calls Tryd.prog 18 #[.int .i64 1] W fun r w' => r = .returned (.agg #[.int .i64 1, .int .i64 0, .bool true, .int .i64 16, .string ⟨#[]⟩]) ∧ Below W.heap.size W w') := fun W => sequence_any 1 W
  have hI : Hid (∀ W, Calls Tryd.prog 33 #[.int .i64 2] W fun r w' => r = .returned (.agg #[.int .i64 2, .int .i64 0, .bool false, .int .i64 2, .string ⟨#[]⟩]) ∧ Below W.heap.size W w') := fun W => integer_any 2 W
  have hO : Hid (∀ W, Calls Tryd.prog 21 #[.int .i64 2] W fun r w' => r = .returned (.agg #[.int .i64 2, .int .i64 0, .bool false, .int .i64 4, .string ⟨#[]⟩]) ∧ Below W.heap.size W w') := fun W => octets_any 2 W
  have hpF : pgF l = pgF l := rfl
  conv at hpF => rhs; unfold pgF
  have q1 := fun g W (h : Rdr W g l) => take_any g (nSeq 1) l W h
  obtain ⟨⟨b1, t1, l1⟩, e1⟩ : ∃ x, tk (nSeq 1) l = x := ⟨_, rfl⟩
  rw [e1] at hpF q1
  dsimp only at hpF q1
  have q2 := fun g W (h : Rdr W g l1) => take_any g (nInt 2 ⟨#[]⟩) l1 W h
  obtain ⟨⟨nb, t2, l2⟩, e2⟩ : ∃ x, tk (nInt 2 ⟨#[]⟩) l1 = x := ⟨_, rfl⟩
  rw [e2] at hpF q2
  dsimp only at hpF q2
  have q3 := fun g W (h : Rdr W g l2) => take_any g (nOct 2 ⟨#[]⟩) l2 W h
  obtain ⟨⟨cb, t3, l3⟩, e3⟩ : ∃ x, tk (nOct 2 ⟨#[]⟩) l2 = x := ⟨_, rfl⟩
  rw [e3] at hpF q3
  dsimp only at hpF q3
  have k1 : Hid (∀ g W, Rdr W g l → Calls Tryd.prog 29 #[.pointer (some ⟨g, 0, none⟩), .agg #[.int .i64 1, .int .i64 0, .bool true, .int .i64 16, .string ⟨#[]⟩]] W fun e w' => e = .returned (.tuple #[.string b1, .bool t1]) ∧ Rdr w' g l1 ∧ Ch (fun k => k = g) W w') := q1
  have k2 : Hid (∀ g W, Rdr W g l1 → Calls Tryd.prog 29 #[.pointer (some ⟨g, 0, none⟩), .agg #[.int .i64 2, .int .i64 0, .bool false, .int .i64 2, .string ⟨#[]⟩]] W fun e w' => e = .returned (.tuple #[.string nb, .bool t2]) ∧ Rdr w' g l2 ∧ Ch (fun k => k = g) W w') := q2
  have k3 : Hid (∀ g W, Rdr W g l2 → Calls Tryd.prog 29 #[.pointer (some ⟨g, 0, none⟩), .agg #[.int .i64 2, .int .i64 0, .bool false, .int .i64 4, .string ⟨#[]⟩]] W fun e w' => e = .returned (.tuple #[.string cb, .bool t3]) ∧ Rdr w' g l3 ∧ Ch (fun k => k = g) W w') := q3
  have k4 : Hid (∀ g W, Rdr W g l3 → Calls Tryd.prog 30 #[.pointer (some ⟨g, 0, none⟩)] W fun e w' => e = .returned (.bool (decide (l3 = []))) ∧ w' = W) := fun g W h => atEnd_any g l3 W h
  have hN : Hid (∀ W, Calls Tryd.prog 36 #[.string nb] W fun r w' => r = .returned (.tuple #[.int .i64 (iV nb), .int .i64 (iE nb)]) ∧ W = w') := fun W => by have := int_any nb W; rw [intV_eq] at this; exact this
  generalize iV nb = nv at hpF hN
  generalize iE nb = ne at hpF hN
  generalize decide (l3 = []) = at3 at hpF k4
  have HP : Hid (pgF l = if (t1 && (t2 && (t3 && (at3 && (decide (ne = 0) && (!decide (nv < 0) && !decide (2147483647 < nv))))))) = true then some (nv, cb) else none) := hpF
  generalize pgF l = R at HP ⊢
  clear hT q1 q2 q3 e1 e2 e3 hpF
  go_enter Tryd.func13, Tryd.ntmps13
  go_wp2_with fail
  refine hR.out.mono ?_
  rintro e w1 ⟨⟨g, rfl, hg, hr⟩, hb1⟩
  have H1 : Hid (Rdr w1 g l ∧ Below w.heap.size w w1 ∧ w.heap.size ≤ g) := ⟨hr, hb1, hg⟩
  clear hR hr hb1 hg
  go_wp2_with fail
  refine (hS.out _).mono ?_
  rintro e w2 ⟨rfl, hb⟩
  have H2 : Hid (Ch (fun k => k = g) w1 w2) := Ch.of_below hb
  have K := k1.out g w2 (H1.out.1.below hb)
  clear hS hb k1
  go_wp2_with fail
  refine K.mono ?_
  rintro e w3 ⟨rfl, hr, hb⟩
  have H3 : Hid (Rdr w3 g l1 ∧ Ch (fun k => k = g) w1 w3) := ⟨hr, H2.out.trans hb⟩
  clear K hb H2 hr
  go_wp2_with fail
  refine (hI.out _).mono ?_
  rintro e w4 ⟨rfl, hb⟩
  have H4 : Hid (Ch (fun k => k = g) w1 w4) := H3.out.2.trans (Ch.of_below hb)
  have K := k2.out g w4 (H3.out.1.below hb)
  clear hI hb H3 k2
  go_wp2_with fail
  refine K.mono ?_
  rintro e w5 ⟨rfl, hr, hb⟩
  have H5 : Hid (Rdr w5 g l2 ∧ Ch (fun k => k = g) w1 w5) := ⟨hr, H4.out.trans hb⟩
  clear K hb H4 hr
  go_wp2_with fail
  refine (hO.out _).mono ?_
  rintro e w6 ⟨rfl, hb⟩
  have H6 : Hid (Ch (fun k => k = g) w1 w6) := H5.out.2.trans (Ch.of_below hb)
  have K := k3.out g w6 (H5.out.1.below hb)
  clear hO hb H5 k3
  go_wp2_with fail
  refine K.mono ?_
  rintro e w7 ⟨rfl, hr, hb⟩
  have H7 : Hid (Below w.heap.size w w7) := H1.out.2.1.trans ((H6.out.trans hb).below H1.out.2.1.size (fun k hk => by rw [hk]; exact H1.out.2.2))
  have K4 := k4.out g w7 hr
  clear K hb H6 k4 H1 hr
  go_wp2_with fail
  refine (hN.out _).mono ?_
  rintro e w8 ⟨rfl, rfl⟩
  clear hN
  have K4' : Hid (Calls Tryd.prog 30 #[.pointer (some ⟨g, 0, none⟩)] w7 fun e w' => e = .returned (.bool at3) ∧ w' = w7) := K4
  clear K4
  cases t1 with
  | false =>
    clear K4'
    go_wp2_with fail
    all_goals go_ret3
    all_goals exact ⟨Or.inr ⟨by rw [HP.out]; rfl, rfl⟩, H7.out⟩
  | true =>
  cases t2 with
  | false =>
    clear K4'
    go_wp2_with fail
    all_goals go_ret3
    all_goals exact ⟨Or.inr ⟨by rw [HP.out]; rfl, rfl⟩, H7.out⟩
  | true =>
  cases t3 with
  | false =>
    clear K4'
    go_wp2_with fail
    all_goals go_ret3
    all_goals exact ⟨Or.inr ⟨by rw [HP.out]; rfl, rfl⟩, H7.out⟩
  | true =>
  go_wp2_with fail
  refine K4'.out.mono ?_
  rintro e w9 ⟨rfl, rfl⟩
  clear K4'
  cases at3 with
  | false =>
    go_wp2_with fail
    all_goals go_ret3
    all_goals exact ⟨Or.inr ⟨by rw [HP.out]; rfl, rfl⟩, H7.out⟩
  | true =>
  by_cases n1 : ne = 0
  · subst n1
    by_cases n2 : nv < 0
    · have HF : Hid (R = none) := by unfold Hid; rw [HP.out, decide_eq_true n2]; rfl
      clear HP
      go_wp2_with fail
      all_goals go_ret3
      all_goals exact ⟨Or.inr ⟨HF.out, rfl⟩, H7.out⟩
    · by_cases n3 : 2147483647 < nv
      · have HF : Hid (R = none) := by unfold Hid; rw [HP.out, decide_eq_true n3, decide_eq_false n2]; rfl
        clear HP
        go_wp2_with fail
        all_goals go_ret3
        all_goals exact ⟨Or.inr ⟨HF.out, rfl⟩, H7.out⟩
      · have HF : Hid (R = some (nv, cb)) := by unfold Hid; rw [HP.out, decide_eq_false n3, decide_eq_false n2]; rfl
        clear HP
        go_wp2_with fail
        all_goals go_ret3
        all_goals exact ⟨Or.inl ⟨nv, cb, HF.out, rfl⟩, H7.out⟩
  · have n1' : (ne != 0) = true := by simp [n1]
    have HF : Hid (R = none) := by unfold Hid; rw [HP.out, decide_eq_false n1]; rfl
    clear HP n1
    go_wp2_with fail
    all_goals go_ret3
    all_goals exact ⟨Or.inr ⟨HF.out, rfl⟩, H7.out⟩
end Vr
end Go.Proofs.YtkiidlnimjjnlaaDoor
