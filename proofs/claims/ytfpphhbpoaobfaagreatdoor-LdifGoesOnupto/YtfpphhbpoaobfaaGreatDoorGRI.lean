import Derived.Test.YtfpphhbpoaobfaaGreatDoorRdH
import Derived.Test.YtfpphhbpoaobfaaGreatDoorGPL
import Derived.Test.YtfpphhbpoaobfaaGreatDoorLrI
import Derived.BigQuiet
namespace Go.Proofs.YtfpphhbpoaobfaaGreatDoor
namespace Rd
open Go.RowKit
open LdMath
open Lr (PR RC pf chg okD dnB ChgTab GOwn GRow pV pV_len Kd PX RX rV rV_len append_gen RRow PRow said)
set_option linter.unusedVariables false
set_option maxRecDepth 100000

/-- Sizes of what is read. -/
theorem rdL_len (e : Nat) : ∀ (ls : List (Nat × List UInt8)) (st : St), (rdL e st ls).1.length ≤ ls.length + 1
  | [], st => by
    rw [rd_end]
    unfold fin
    repeat' split
    all_goals simp
  | (n, t) :: ls, st => by
    have ih := rdL_len e ls
    rw [rdL]
    split
    · have := ih st; simp only [List.length_cons]; omega
    · split
      · split
        · have := ih (takeS st n t); simp only [List.length_cons]; omega
        · simp
      · split
        · unfold fin
          repeat' split
          all_goals simp
        · split
          · have := ih (2, st.2); simp only [List.length_cons]; omega
          · have := ih st; simp only [List.length_cons]; omega
theorem fin_rec (e : Nat) (st : St) : ∀ r ∈ (fin e st).1, r = st.2 := by
  intro r hr
  unfold fin at hr
  split at hr
  · simp at hr
  · split at hr
    · simp at hr
    · split at hr
      · simp at hr
      · split at hr
        · simpa using hr
        · simp at hr
theorem takeS_prs (st : St) (n : Nat) (t : List UInt8) : (takeS st n t).2.2.2.length ≤ st.2.2.2.length + 1 := by
  unfold takeS
  split
  · exact Nat.le_succ _
  · split
    · exact Nat.zero_le _
    · simp
theorem takeS_line (st : St) (n : Nat) (t : List UInt8) : (takeS st n t).2.1 = st.2.1 ∨ (takeS st n t).2.1 = n := by
  unfold takeS
  split
  · exact .inl rfl
  · split
    · exact .inr rfl
    · exact .inl rfl
theorem rdL_rec (e M : Nat) : ∀ (ls : List (Nat × List UInt8)) (st : St), (∀ p ∈ ls, p.1 ≤ M) → st.2.1 ≤ M → ∀ r ∈ (rdL e st ls).1, r.1 ≤ M ∧ r.2.2.length ≤ st.2.2.2.length + ls.length
  | [], st, _, hst, r, hr => by
    rw [rd_end] at hr
    rw [fin_rec e st r hr]
    exact ⟨hst, Nat.le_add_right _ _⟩
  | (n, t) :: ls, st, hls, hst, r, hr => by
    have hn : n ≤ M := hls (n, t) List.mem_cons_self
    have hls' : ∀ p ∈ ls, p.1 ≤ M := fun p hp => hls p (List.mem_cons_of_mem _ hp)
    rw [rdL] at hr
    rw [List.length_cons]
    split at hr
    · have := rdL_rec e M ls st hls' hst r hr
      omega
    · split at hr
      · split at hr
        · have h1 : (takeS st n t).2.1 ≤ M := by rcases takeS_line st n t with h | h <;> rw [h] <;> assumption
          have := rdL_rec e M ls (takeS st n t) hls' h1 r hr
          have := takeS_prs st n t
          omega
        · simp at hr
      · split at hr
        · rw [fin_rec e st r hr]
          exact ⟨hst, by omega⟩
        · split at hr
          · rcases List.mem_cons.1 hr with rfl | hr
            · exact ⟨hst, by omega⟩
            · have := rdL_rec e M ls (2, st.2) hls' hst r hr
              have e2 : ((2, st.2) : St).2.2.2.length = st.2.2.2.length := rfl
              omega
          · have := rdL_rec e M ls st hls' hst r hr
            omega
theorem joinS_num : ∀ (l : List (Nat × List UInt8)), ∀ p ∈ joinS l, ∃ q ∈ l, q.1 = p.1 := by
  intro l
  induction l using snocInd with
  | nil => intro p hp; simp [joinS_nil] at hp
  | append_singleton pre x ih =>
    intro p hp
    cases hg : goes x.2 with
    | false =>
      rw [joinS_new pre x hg] at hp
      rcases List.mem_append.1 hp with hp | hp
      · obtain ⟨q, h1, h2⟩ := ih p hp
        exact ⟨q, List.mem_append_left _ h1, h2⟩
      · simp at hp
        subst hp
        exact ⟨p, by simp, rfl⟩
    | true =>
      rw [joinS_on pre x hg] at hp
      unfold addLast at hp
      cases hl : (joinS pre).getLast? with
      | none => rw [hl] at hp; simp at hp
      | some q0 =>
        rw [hl] at hp
        rcases List.mem_append.1 hp with hp | hp
        · obtain ⟨q, h1, h2⟩ := ih p (List.dropLast_subset _ hp)
          exact ⟨q, List.mem_append_left _ h1, h2⟩
        · simp at hp
          subst hp
          obtain ⟨q, h1, h2⟩ := ih q0 (List.mem_of_getLast? hl)
          exact ⟨q, List.mem_append_left _ h1, h2⟩
theorem phys_le (b : List UInt8) : ∀ p ∈ phys b, p.1 ≤ (phys b).length := by
  intro p hp
  obtain ⟨i, hi, rfl⟩ := List.getElem_of_mem hp
  rw [phys_num b i hi]
  omega
theorem lines_le (b : List UInt8) : ∀ p ∈ joinS (phys b), p.1 ≤ b.length + 1 := by
  intro p hp
  obtain ⟨q, h1, h2⟩ := joinS_num _ p hp
  have := phys_le b q h1
  have := phys_len b
  omega
theorem ldR_size (b : List UInt8) : (ldR b).length ≤ b.length + 2 ∧ ∀ r ∈ ldR b, r.1 ≤ b.length + 1 ∧ r.2.2.length ≤ b.length + 1 := by
  have hz : (ldR b = []) ∨ (ldR b = (rdL ((phys b).length + 1) st0 (joinS (phys b))).1) := by
    unfold ldR
    split
    · cases hf : ferr [] (phys b) with
      | some p =>
        obtain ⟨e, n⟩ := p
        rw [rdT_bad hf]
        exact .inl rfl
      | none => rw [rdT_ok hf]; exact .inr rfl
    · exact .inl rfl
  have h1 := (joinS_sizes (phys b)).1
  have h2 := phys_len b
  rcases hz with h | h
  · rw [h]
    exact ⟨Nat.zero_le _, fun r hr => by simp at hr⟩
  · rw [h]
    refine ⟨?_, fun r hr => ?_⟩
    · have := rdL_len ((phys b).length + 1) (joinS (phys b)) st0
      omega
    · have h3 := rdL_rec ((phys b).length + 1) (b.length + 1) (joinS (phys b)) st0 (lines_le b) (Nat.zero_le _) r hr
      refine ⟨h3.1, ?_⟩
      have h4 := h3.2
      have e0 : st0.2.2.2.length = 0 := rfl
      omega
theorem rdL_fault (e M : Nat) (he : e ≤ M) : ∀ (ls : List (Nat × List UInt8)) (st : St), (∀ p ∈ ls, p.1 ≤ M) → st.2.1 ≤ M → (rdL e st ls).2.2 ≤ M
  | [], st, _, hst => by
    rw [rd_end]
    unfold fin
    repeat' split
    all_goals first | exact he | exact hst | exact Nat.zero_le _
  | (n, t) :: ls, st, hls, hst => by
    have hn : n ≤ M := hls (n, t) List.mem_cons_self
    have hls' : ∀ p ∈ ls, p.1 ≤ M := fun p hp => hls p (List.mem_cons_of_mem _ hp)
    rw [rdL]
    split
    · exact rdL_fault e M he ls st hls' hst
    · split
      · split
        · exact rdL_fault e M he ls _ hls' (by rcases takeS_line st n t with h | h <;> rw [h] <;> assumption)
        · exact hn
      · split
        · unfold fin
          repeat' split
          all_goals first | exact he | exact hst | exact Nat.zero_le _
        · split
          · exact rdL_fault e M he ls (2, st.2) hls' hst
          · exact rdL_fault e M he ls st hls' hst
theorem ferr_line : ∀ (l : List (Nat × List UInt8)) (a : List UInt8) (p : Nat × Nat), ferr a l = some p → ∃ q ∈ l, q.1 = p.2
  | [], _, _, h => by cases h
  | x :: l, a, p, h => by
    unfold ferr at h
    cases hf : flt a x.2 with
    | none =>
      rw [hf] at h
      obtain ⟨q, h1, h2⟩ := ferr_line l x.2 p h
      exact ⟨q, List.mem_cons_of_mem _ h1, h2⟩
    | some e =>
      rw [hf] at h
      injection h with h
      subst h
      exact ⟨x, List.mem_cons_self, rfl⟩
theorem rdT_size (b : List UInt8) : (rdT b).2.2 ≤ b.length + 2 := by
  cases hf : ferr [] (phys b) with
  | some p =>
    obtain ⟨e, n⟩ := p
    rw [rdT_bad hf]
    obtain ⟨q, h1, h2⟩ := ferr_line _ _ _ hf
    have := phys_le b q h1
    have := phys_len b
    simp only at h2 ⊢
    omega
  | none =>
    rw [rdT_ok hf]
    have := phys_len b
    exact rdL_fault _ (b.length + 2) (by omega) _ _ (fun p hp => by have := lines_le b p hp; omega) (Nat.zero_le _)

/-- What Load lays, as rows. -/
def LdRw (w : World) (rs : List Rc) (a : Option Addr) (Rs : List RX) : Prop := RRow w a Rs ∧ Rs.length = rs.length ∧ ∀ i (h : i < Rs.length) (h' : i < rs.length), Rs[i].1 = (rs[i].1 : Int) ∧ said Rs[i] = rs[i].2
theorem LdRw.below {w w' : World} {rs : List Rc} {a : Option Addr} {Rs : List RX} (h : LdRw w rs a Rs) (hb : Below w.heap.size w w') : LdRw w' rs a Rs := ⟨h.1.below hb, h.2⟩
theorem ldRw_of {B : Nat} {rs : List Rc} {v : Value} {Rs : List RX} {w : World} (h : LdIs B rs v Rs w) : ∃ a c, v = .slice a rs.length c ∧ LdRw w rs a Rs := by
  obtain ⟨h1, h2, h3⟩ := h
  have hl : Rs.length = rs.length := by have := congrArg List.length h1; simpa using this
  obtain ⟨a, c, rfl, _, _, hr⟩ := h2.row rV_len
  rw [hl]
  refine ⟨a, c, rfl, ⟨hr, fun r hr' => ?_⟩, hl, fun i hi hi' => ?_⟩
  · obtain ⟨a', c', e, k1, k2, k3⟩ := (show GOwn 46 2 pV w B _ r.2.2.2.2 from h3 r hr').row pV_len
    injection e with e1 e2 e3
    rw [e1, e3]
    exact ⟨k3, k1, k2⟩
  · have h4 : (Rs.map (fun r => (r.1, r.2.1, r.2.2.2.2)))[i]? = (rs.map (fun r => ((r.1 : Int), r.2.1, r.2.2)))[i]? := by rw [h1]
    rw [List.getElem?_map, List.getElem?_map, List.getElem?_eq_getElem hi, List.getElem?_eq_getElem hi'] at h4
    simp only [Option.map_some, Option.some.injEq, Prod.mk.injEq] at h4
    obtain ⟨e1, e2, e3⟩ := h4
    refine ⟨e1, ?_⟩
    unfold said
    rw [e2, e3]
theorem loads_any (s : ByteArray) (hs : s.size ≤ 10485760) (w : World) (hWt : WTab w) (hCt : ChgTab w) (n : Nat) (hn : (ldR s.data.toList).length = n) :
    Calls Tryz.prog 10 #[.string s] w fun e w' => ∃ a c Rs, e = .returned (.tuple #[.slice a n c, .int .i64 ((rdT s.data.toList).2.1 : Int), .int .i64 ((rdT s.data.toList).2.2 : Int)]) ∧ LdRw w' (ldR s.data.toList) a Rs ∧ Below w.heap.size w w' := by
  refine (load_any s hs w hWt hCt).mono ?_
  rintro e w' ⟨v, Rs, rfl, h1, h2⟩
  obtain ⟨a, c, rfl, h3⟩ := ldRw_of h1
  rw [hn]
  exact ⟨a, c, Rs, rfl, h3, h2⟩
end Rd
end Go.Proofs.YtfpphhbpoaobfaaGreatDoor

namespace Go.Proofs.YtfpphhbpoaobfaaGreatDoor
namespace Rd
open Go.RowKit
open LdMath
open Lr (PR RC pf chg okD dnB ChgTab GOwn GRow pV pV_len Kd PX RX rV rV_len append_gen RRow PRow said rrow_at prow_at drewN_below)
set_option linter.unusedVariables false
set_option maxRecDepth 100000

/-- A line's number, where one line is put in ahead of the line f. -/
def lat (n f : Int) : Int := if 0 < f ∧ f ≤ n then n + 1 else n
theorem later_any (n f : Int) (w : World) (h0 : 0 ≤ n) (h1 : n < 1099511627776) :
    Calls Tryz.prog 25 #[.int .i64 n, .int .i64 f] w fun e w' => e = .returned (.int .i64 (lat n f)) ∧ w = w' := by
  by_cases hf : 0 < f
  · by_cases hn : f ≤ n
    · have e : lat n f = n + 1 := by unfold lat; rw [if_pos ⟨hf, hn⟩]
      rw [e]
      have d1 : f > 0 := hf
      have d2 : n ≥ f := hn
      go_enter Tryz.func25, Tryz.ntmps25
      go_wp2_with fail
      go_ret
      exact ⟨rfl, rfl⟩
    · have e : lat n f = n := by unfold lat; rw [if_neg (fun h => hn h.2)]
      rw [e]
      have d1 : f > 0 := hf
      have d2 : ¬ n ≥ f := hn
      go_enter Tryz.func25, Tryz.ntmps25
      go_wp2_with fail
      go_ret
      exact ⟨rfl, rfl⟩
  · have e : lat n f = n := by unfold lat; rw [if_neg (fun h => hf h.1)]
    rw [e]
    have d1 : ¬ f > 0 := hf
    go_enter Tryz.func25, Tryz.ntmps25
    go_wp2_with fail
    go_ret
    exact ⟨rfl, rfl⟩
/-- What sameLoad asks of two texts. -/
def SmL (s t : List UInt8) (f : Int) : Prop := (rdT s).2.1 = (rdT t).2.1 ∧ ((rdT s).2.1 ≠ 0 → ((rdT t).2.2 : Int) = lat ((rdT s).2.2 : Int) f) ∧ (ldR s).length = (ldR t).length ∧ ∀ i (h : i < (ldR s).length) (h' : i < (ldR t).length), (ldR s)[i].2 = (ldR t)[i].2 ∧ ((ldR t)[i].1 : Int) = lat ((ldR s)[i].1 : Int) f

set_option maxHeartbeats 4000000 in
theorem sameLoad_any (s t : ByteArray) (hs : s.size ≤ 10485760) (ht : t.size ≤ 10485760) (f : Int) (w : World) (hWt : WTab w) (hCt : ChgTab w) (hm : SmL s.data.toList t.data.toList f) :
    Calls Tryz.prog 15 #[.string s, .string t, .int .i64 f] w fun e w' => e = .returned (.bool true) ∧ Below w.heap.size w w' := by
  obtain ⟨m1, m2, m3, m4⟩ := hm
  obtain ⟨n, hn⟩ : ∃ n, (ldR s.data.toList).length = n := ⟨_, rfl⟩
  have hn' : (ldR t.data.toList).length = n := by rw [← m3, hn]
  have hL1 : Hid (Calls Tryz.prog 10 #[.string s] w fun e w' => ∃ a c Rs, e = .returned (.tuple #[.slice a n c, .int .i64 ((rdT s.data.toList).2.1 : Int), .int .i64 ((rdT s.data.toList).2.2 : Int)]) ∧ LdRw w' (ldR s.data.toList) a Rs ∧ Below w.heap.size w w') := loads_any s hs w hWt hCt n hn
  have hL2 : ∀ W, Below w.heap.size w W → Hid (Calls Tryz.prog 10 #[.string t] W fun e w' => ∃ a c Rs, e = .returned (.tuple #[.slice a n c, .int .i64 ((rdT s.data.toList).2.1 : Int), .int .i64 ((rdT t.data.toList).2.2 : Int)]) ∧ LdRw w' (ldR t.data.toList) a Rs ∧ Below W.heap.size W w') := fun W hb => by
    have := loads_any t ht W (hWt.below hb) (hCt.below hb) n hn'
    rw [← m1] at this
    exact this
  have z1 := ldR_size s.data.toList
  have z2 := ldR_size t.data.toList
  have z3 := rdT_size s.data.toList
  rw [size_l] at z1 z2 z3
  have nb : (n : Int) ≤ 10485762 := by omega
  have nb' : Hid (n ≤ 10485762) := by unfold Hid; omega
  have hlat : Hid (∀ k : Nat, k ≤ 10485762 → ∀ W, Calls Tryz.prog 25 #[.int .i64 (k : Int), .int .i64 f] W fun e w' => e = .returned (.int .i64 (lat (k : Int) f)) ∧ W = w') := fun k hk W => later_any (k : Int) f W (Int.natCast_nonneg _) (by omega)
  obtain ⟨er, her⟩ : ∃ er, (rdT s.data.toList).2.1 = er := ⟨_, rfl⟩
  obtain ⟨at1, hat1⟩ : ∃ x, (rdT s.data.toList).2.2 = x := ⟨_, rfl⟩
  obtain ⟨at2, hat2⟩ : ∃ x, (rdT t.data.toList).2.2 = x := ⟨_, rfl⟩
  rw [her] at m2 hL1 hL2
  rw [hat1] at hL1 m2 z3
  rw [hat2] at hL2 m2
  have hlt0 : Hid (∀ W, Calls Tryz.prog 25 #[.int .i64 (at1 : Int), .int .i64 f] W fun e w' => e = .returned (.int .i64 (lat (at1 : Int) f)) ∧ W = w') := fun W => hlat.out at1 (by omega) W
  have hMM : Hid (((ldR s.data.toList).length = n ∧ (ldR t.data.toList).length = n) ∧ (∀ r ∈ ldR s.data.toList, r.1 ≤ 10485762 ∧ r.2.2.length ≤ 10485762) ∧ ∀ i (h : i < (ldR s.data.toList).length) (h' : i < (ldR t.data.toList).length), (ldR s.data.toList)[i].2 = (ldR t.data.toList)[i].2 ∧ ((ldR t.data.toList)[i].1 : Int) = lat ((ldR s.data.toList)[i].1 : Int) f) := ⟨⟨hn, hn'⟩, fun r hr => by have := z1.2 r hr; omega, m4⟩
  have hsame : Hid (∀ W a b c d Rs Qs, LdRw W (ldR s.data.toList) a Rs → LdRw W (ldR t.data.toList) b Qs → Calls Tryz.prog 18 #[.slice a n c, .slice b n d, .bool false] W fun e w' => e = .returned (.bool true) ∧ Below W.heap.size W w') := fun W a b c d Rs Qs h1 h2 => by
    refine Lr.sameRecordsF_any a b c d Rs Qs n W (by rw [h1.2.1, hn]) (by rw [h2.2.1, hn']) (by have := nb'.out; omega) h1.1 h2.1 (fun i hi hi' => ?_) (fun r hr => ?_)
    · have hi1 : i < (ldR s.data.toList).length := by rw [← h1.2.1]; exact hi
      have hi2 : i < (ldR t.data.toList).length := by rw [← h2.2.1]; exact hi'
      rw [(h1.2.2 i hi hi1).2, (h2.2.2 i hi' hi2).2]
      exact (m4 i hi1 hi2).1
    · obtain ⟨i, hi, rfl⟩ := List.getElem_of_mem hr
      have hi1 : i < (ldR s.data.toList).length := by rw [← h1.2.1]; exact hi
      have h3 := (h1.2.2 i hi hi1).2
      have h4 := (z1.2 _ (List.getElem_mem hi1)).2
      have h5 : Rs[i].2.2.2.2 = (ldR s.data.toList)[i].2.2 := congrArg Prod.snd h3
      rw [h5]
      omega
  clear m1 m3 m4 hn hn' hWt hCt hs ht z1 z2 her hat1 hat2
  have hcase : (((er : Int) != 0) = false) ∨ (((er : Int) != 0) = true ∧ (at2 : Int) = lat (at1 : Int) f) := by
    by_cases h0 : er = 0
    · exact .inl (by simp [h0])
    · exact .inr ⟨by simp only [bne_iff_ne, ne_eq]; omega, m2 h0⟩
  have hlat' : Hid (∀ k : Nat, k ≤ 10485762 → ∀ W, Calls Tryz.prog 25 #[.int .i64 (k : Int), .int .i64 f] W fun e w' => e = .returned (.int .i64 (lat (k : Int) f)) ∧ w' = W) := fun k hk W => (hlat.out k hk W).mono (fun e w' h => ⟨h.1, h.2.symm⟩)
  clear m2 z3 hlat
  rcases hcase with hc0 | ⟨hc0, hc1⟩
  all_goals
    (try rw [hc1] at hL2)
    (try clear hc1)
    generalize lat (at1 : Int) f = la at *
    go_enter Tryz.func15, Tryz.ntmps15
    go_wp2_with (first
      | (go_at_call 10; refine hL1.out.mono ?_; rintro e w1 ⟨a1, c1, R1, rfl, hR1, hb1⟩; have H1 : Hid (LdRw w1 (ldR s.data.toList) a1 R1 ∧ Below w.heap.size w w1) := ⟨hR1, hb1⟩; clear hR1 hb1 hL1)
      | (go_at_call 10; refine (hL2 w1 H1.out.2).out.mono ?_; rintro e w2 ⟨a2, c2, R2, rfl, hR2, hb2⟩; have H2 : Hid (LdRw w2 (ldR s.data.toList) a1 R1 ∧ LdRw w2 (ldR t.data.toList) a2 R2 ∧ Below w.heap.size w w2) := ⟨H1.out.1.below hb2, hR2, H1.out.2.trans (hb2.mono H1.out.2.size)⟩; clear hR2 hb2 hL2)
      | (go_at_call 9; refine (num_any _ _).mono ?_; rintro e w9 ⟨rfl, rfl⟩)
      | (go_at_call 18; refine (hsame.out _ a1 a2 c1 c2 R1 R2 H2.out.1 H2.out.2.1).mono ?_; rintro e w3 ⟨rfl, hb3⟩; have H3 : Hid (LdRw w3 (ldR s.data.toList) a1 R1 ∧ LdRw w3 (ldR t.data.toList) a2 R2 ∧ Below w.heap.size w w3) := ⟨H2.out.1.below hb3, H2.out.2.1.below hb3, H2.out.2.2.trans (hb3.mono H2.out.2.2.size)⟩; clear hb3)
      | (go_at_call 25; refine (hlt0.out _).mono ?_; rintro e w4 ⟨rfl, rfl⟩))
    obtain ⟨W9, rfl⟩ : ∃ W9, W9 = w9 := ⟨_, rfl⟩
    clear hc0 hsame hlt0 H1 H2
    go_loopw [13] (fun iv wr => ∃ i q : Nat, i ≤ n ∧ iv = .int .i64 (i : Int) ∧ Hid (wr = W9.drewN q)) (fun iv _ => n - (intOf iv).toNat)
    case atStart => exact ⟨0, 0, Nat.zero_le _, rfl, rfl⟩
    case round =>
      obtain ⟨i, q, hi, rfl, hw⟩ := hrel
      have i0 : (0 : Int) ≤ (i : Int) := Int.natCast_nonneg _
      by_cases hlt : i < n
      · have i1 : (i : Int) < (n : Int) := Int.ofNat_lt.2 hlt
        have j1 : i < (ldR s.data.toList).length := by rw [hMM.out.1.1]; exact hlt
        have j2 : i < (ldR t.data.toList).length := by rw [hMM.out.1.2]; exact hlt
        have k1 : i < R1.length := by rw [H3.out.1.2.1]; exact j1
        have k2 : i < R2.length := by rw [H3.out.2.1.2.1]; exact j2
        obtain ⟨b1, o1, rfl, p1, p2, p3⟩ := rrow_at H3.out.1.1 i k1
        obtain ⟨b2, o2, rfl, q1, q2, q3⟩ := rrow_at H3.out.2.1.1 i k2
        clear p2 p3 q2 q3
        rw [(H3.out.1.2.2 i k1 j1).1] at p1
        rw [(H3.out.2.1.2.2 i k2 j2).1, (hMM.out.2.2 i j1 j2).2] at q1
        have hx := (hMM.out.2.1 _ (List.getElem_mem j1)).1
        obtain ⟨x, hxx⟩ : ∃ x, (ldR s.data.toList)[i].1 = x := ⟨_, rfl⟩
        rw [hxx] at p1 q1 hx
        have hlx := hlat'.out x hx
        have hE : ∀ a, wr.cell? a = W9.cell? a := fun a => by rw [hw.out]; rfl
        rw [← hE] at p1 q1
        generalize lat (x : Int) f = lx at *
        have hlx' : Hid (∀ W, Calls Tryz.prog 25 #[.int .i64 (x : Int), .int .i64 f] W fun e w' => e = .returned (.int .i64 lx) ∧ w' = W) := hlx
        have hlt' : Hid (i < n) := hlt
        clear hE hlt hi hlx hx hxx j1 j2 k1 k2
        go_wp2_with fail
        go_quiet ((go_at_call 25; exact Calls.quiet_of_same (hlx'.out _)))
        go_wp2_with fail
        go_roundw
        case rel => exact ⟨i + 1, _, hlt'.out, by simp, by unfold Hid; rw [hw.out, World.drewN_drewN]⟩
        case measure => have := hlt'.out; simp [intOf]; omega
      · have e : n = i := by omega
        subst e
        have k1 : ¬ (n : Int) < (n : Int) := by omega
        have hfin : Hid (Below w.heap.size w wr) := by unfold Hid; rw [hw.out]; exact H3.out.2.2.trans (drewN_below _ _ _)
        clear hlt hi
        go_wp2_with fail
        go_ret
        exact ⟨rfl, hfin.out⟩
end Rd
end Go.Proofs.YtfpphhbpoaobfaaGreatDoor

namespace Go.Proofs.YtfpphhbpoaobfaaGreatDoor
namespace Rd
open Go.RowKit
open LdMath
open Lr (PR RC pf chg okD dnB ChgTab GOwn GRow pV pV_len Kd PX RX rV rV_len append_gen RRow PRow said rrow_at prow_at drewN_below)
set_option linter.unusedVariables false
set_option maxRecDepth 100000

def fixB : List UInt8 := [118, 101, 114, 115, 105, 111, 110, 58, 32, 49, 10, 100, 110, 58, 32, 111, 61, 120, 10, 111, 58, 32, 120, 10]
theorem fix_rdT : rdT fixB = ([(2, [111, 61, 120], [([111], [120])])], 0, 0) := by kernel_rfl
set_option maxHeartbeats 2000000 in
theorem fixed_any (w : World) (hWt : WTab w) (hCt : ChgTab w) :
    Calls Tryz.prog 7 #[] w fun e w' => e = .returned (.bool true) ∧ Below w.heap.size w w' := by
  have hr : ldR fixB = [(2, [111, 61, 120], [([111], [120])])] := by unfold ldR; rw [fix_rdT]; rfl
  have hL := loads_any (S fixB) (by rw [S_size]; decide) w hWt hCt 1 (by rw [S_l, hr]; rfl)
  rw [S_l, fix_rdT, hr] at hL
  have hL' : Hid (Calls Tryz.prog 10 #[.string { data := #[118, 101, 114, 115, 105, 111, 110, 58, 32, 49, 10, 100, 110, 58, 32, 111, 61, 120, 10, 111, 58, 32, 120, 10] }] w fun e w' => ∃ b o c pb po pc, e = .returned (.tuple #[.slice (some ⟨b, o, none⟩) 1 c, .int .i64 0, .int .i64 0]) ∧ (w'.cell? ⟨b, o, none⟩ = some (.int .i64 2) ∧ w'.cell? ⟨b, o + 1, none⟩ = some (.string { data := #[111, 61, 120] }) ∧ w'.cell? ⟨b, o + 2, none⟩ = some (.slice (some ⟨pb, po, none⟩) 1 pc) ∧ w'.cell? ⟨pb, po + 1, none⟩ = some (.string { data := #[120] })) ∧ Below w.heap.size w w') := by
    refine Calls.mono hL ?_
    rintro e w' ⟨a, c, Rs, rfl, ⟨h1, h2, h3⟩, hb⟩
    have hl : 0 < Rs.length := by rw [h2]; decide
    obtain ⟨b, o, rfl, c0, c1, c2⟩ := rrow_at h1 0 hl
    obtain ⟨e1, e2⟩ := h3 0 hl (by decide)
    have r1 := (h1.2 _ (List.getElem_mem hl)).1
    generalize hx : Rs[0] = x at *
    obtain ⟨ln, nm, pa, pc, ps⟩ := x
    dsimp only [said] at c0 c1 c2 e1 e2 r1
    injection e2 with e2 e3
    have e4 : ps = [([111], [120])] := e3
    have e5 : nm = [111, 61, 120] := e2
    subst e4 e5
    have e6 : ln = 2 := e1
    subst e6
    obtain ⟨pb, po, rfl, d0, d1⟩ := prow_at r1 0 (by decide)
    refine ⟨b, o, c, pb, po, pc, rfl, ⟨?_, ?_, ?_, ?_⟩, hb⟩
    · simpa using c0
    · exact c1
    · simpa using c2
    · exact d1
  clear hL
  go_enter Tryz.func7, Tryz.ntmps7
  go_wp2_with (first
    | (go_at_call 10; refine hL'.out.mono ?_; rintro e w1 ⟨b, o, c, pb, po, pc, rfl, ⟨c0, c1, c2, c3⟩, hb⟩)
    | (go_at_call 9; refine (num_any _ _).mono ?_; rintro e w9 ⟨rfl, rfl⟩))
  go_ret
  exact ⟨rfl, hb⟩
end Rd
end Go.Proofs.YtfpphhbpoaobfaaGreatDoor

namespace Go.Proofs.YtfpphhbpoaobfaaGreatDoor
namespace Rd
open Go.RowKit
open LdMath
open Lr (PR RC pf chg okD dnB ChgTab GOwn GRow pV pV_len Kd PX RX rV rV_len append_gen RRow PRow said rrow_at prow_at drewN_below)
set_option linter.unusedVariables false
set_option maxRecDepth 100000

def bV (b : UInt8) : List Value := [.int .u8 (b.toNat : Int)]
theorem bV_flat (l : List UInt8) : l.flatMap bV = bv l := by
  induction l with
  | nil => rfl
  | cons x l ih => rw [List.flatMap_cons, ih]; rfl
theorem KDb : Kd 5 62 1 1 bV := by
  obtain ⟨i0, hi, hz0, hz1, hz2⟩ := info_parts info_u8
  exact ⟨Tryz.underlying62, ⟨i0, _, hi, hz0, hz1, hz2, rfl⟩, by decide, by decide, fun _ => rfl, fun x u hu => by simp [bV] at hu; subst hu; rfl⟩
theorem own_g {W : World} {B : Nat} {v : Value} {l : List UInt8} : Own W B v l ↔ GOwn 5 1 bV W B v l := by unfold Own GOwn; rw [bV_flat]
/-- A byte appended. -/
theorem app_byte (w : World) (B : Nat) (v : Value) (l : List UInt8) (c : UInt8) (h : Own w B v l) (hB : B ≤ w.heap.size) (hl : l.length ≤ 1099511627776) :
    ∃ g cap w', (Builtin.append_ #[62, 62] 62 #[v, .slice (some ⟨w.heap.size, 0, none⟩) 1 1]).run Tryz.prog (w.alloc (.cells #[.int .u8 (c.toNat : Int)] 5)) = .ok (.slice (some ⟨g, 0, none⟩) (l.length + 1) cap) w' ∧ Own w' B (.slice (some ⟨g, 0, none⟩) (l.length + 1) cap) (l ++ [c]) ∧ Below B w w' := by
  have ba : Below w.heap.size w (w.alloc (.cells #[.int .u8 (c.toNat : Int)] 5)) := (Below.refl _ _).alloc (Nat.le_refl _) _
  obtain ⟨v', w', e, o, g, b⟩ := append_gen KDb (w.alloc (.cells #[.int .u8 (c.toNat : Int)] 5)) B v l [c] (some ⟨w.heap.size, 0, none⟩) 1 1 ((own_g.1 h).below ba) (GRow.one bV w 5 c) rfl (Nat.le_trans hB ba.size) (by simp; omega)
  rcases Lr.owns_form o with ⟨_, h0⟩ | ⟨g', cap, rfl, _⟩
  · simp at h0
  · have hl1 : (l ++ [c]).length = l.length + 1 := by simp
    rw [hl1] at e o
    exact ⟨g', cap, w', e, own_g.2 o, (ba.mono hB).trans b⟩
end Rd
end Go.Proofs.YtfpphhbpoaobfaaGreatDoor

namespace Go.Proofs.YtfpphhbpoaobfaaGreatDoor
namespace Rd
open Go.RowKit
open LdMath
open Lr (PR RC pf chg okD dnB ChgTab GOwn GRow pV pV_len Kd PX RX rV rV_len append_gen RRow PRow said rrow_at prow_at drewN_below)
set_option linter.unusedVariables false
set_option maxRecDepth 100000

theorem wrap_up (i : Nat) (h : i ≤ 10485760) : wrap64 ((i : Int) + 1) = (i : Int) + 1 := by unfold wrap64; omega
theorem meas_up {i n : Nat} (h : i < n) : n - ((i : Int) + 1).toNat < n - (i : Int).toNat := by omega
theorem lat_zero (n : Int) : lat n 0 = n := by unfold lat; rw [if_neg (fun h => by omega)]
theorem smL_same {s t : List UInt8} (h : phys t = phys s) : SmL s t 0 := by
  have h1 : rdT t = rdT s := rdT_phys h
  have h2 : ldR t = ldR s := ldR_phys h
  unfold SmL
  rw [h1, h2]
  exact ⟨rfl, fun _ => (lat_zero _).symm, rfl, fun i _ _ => ⟨rfl, (lat_zero _).symm⟩⟩
/-- Lines, as rows. -/
theorem linesR_any (s : ByteArray) (hs : s.size ≤ 10485760) (PL : List (Nat × List UInt8)) (hPL : phys s.data.toList = PL) (n : Nat) (hn : (outL PL).length = n) (W : World) :
    Calls Tryz.prog 8 #[.string s] W fun e w' => ∃ a c, e = .returned (.tuple #[.slice a n c, .int .i64 ((outE PL).1 : Int), .int .i64 ((outE PL).2 : Int)]) ∧ LinR w' a (outL PL) ∧ Below W.heap.size W w' := by
  refine (lines_any s hs W).mono ?_
  rintro e w' ⟨v, er, ln, rfl, h1, h2⟩
  unfold UnfIs at h1
  rw [hPL] at h1
  obtain ⟨⟨a, c, rfl, h3⟩, rfl, rfl⟩ := unf_out h1
  rw [hn]
  exact ⟨a, c, rfl, h3, h2⟩

end Rd
end Go.Proofs.YtfpphhbpoaobfaaGreatDoor
