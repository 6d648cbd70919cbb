import Derived.Test.YtoomoicjoockjaaGreatDoorRdH
import Derived.Test.YtoomoicjoockjaaGreatDoorGPL
import Derived.Test.YtoomoicjoockjaaGreatDoorLrI
namespace Go.Proofs.YtoomoicjoockjaaGreatDoor
namespace Rd
open Go.RowKit
open LdMath
open Lr (PR RC pf chg okD dnB ChgTab GOwn GRow pV pV_len Kd PX RX rV rV_len append_gen RRow PRow said)
set_option linter.unusedVariables false
set_option maxRecDepth 100000

/-- Sizes of what is read. -/
theorem rdL_len (e : Nat) : ∀ (ls : List (Nat × List UInt8)) (st : St), (rdL e st ls).1.length ≤ ls.length + 1
  | [], st => by
    rw [rd_end]
    unfold fin
    repeat' split
    all_goals simp
  | (n, t) :: ls, st => by
    have ih := rdL_len e ls
    rw [rdL]
    split
    · have := ih st; simp only [List.length_cons]; omega
    · split
      · split
        · have := ih (takeS st n t); simp only [List.length_cons]; omega
        · simp
      · split
        · unfold fin
          repeat' split
          all_goals simp
        · split
          · have := ih (2, st.2); simp only [List.length_cons]; omega
          · have := ih st; simp only [List.length_cons]; omega
theorem fin_rec (e : Nat) (st : St) : ∀ r ∈ (fin e st).1, r = st.2 := by
  intro r hr
  unfold fin at hr
  split at hr
  · simp at hr
  · split at hr
    · simp at hr
    · split at hr
      · simp at hr
      · split at hr
        · simpa using hr
        · simp at hr
theorem takeS_prs (st : St) (n : Nat) (t : List UInt8) : (takeS st n t).2.2.2.length ≤ st.2.2.2.length + 1 := by
  unfold takeS
  split
  · exact Nat.le_succ _
  · split
    · exact Nat.zero_le _
    · simp
theorem takeS_line (st : St) (n : Nat) (t : List UInt8) : (takeS st n t).2.1 = st.2.1 ∨ (takeS st n t).2.1 = n := by
  unfold takeS
  split
  · exact .inl rfl
  · split
    · exact .inr rfl
    · exact .inl rfl
theorem rdL_rec (e M : Nat) : ∀ (ls : List (Nat × List UInt8)) (st : St), (∀ p ∈ ls, p.1 ≤ M) → st.2.1 ≤ M → ∀ r ∈ (rdL e st ls).1, r.1 ≤ M ∧ r.2.2.length ≤ st.2.2.2.length + ls.length
  | [], st, _, hst, r, hr => by
    rw [rd_end] at hr
    rw [fin_rec e st r hr]
    exact ⟨hst, Nat.le_add_right _ _⟩
  | (n, t) :: ls, st, hls, hst, r, hr => by
    have hn : n ≤ M := hls (n, t) List.mem_cons_self
    have hls' : ∀ p ∈ ls, p.1 ≤ M := fun p hp => hls p (List.mem_cons_of_mem _ hp)
    rw [rdL] at hr
    rw [List.length_cons]
    split at hr
    · have := rdL_rec e M ls st hls' hst r hr
      omega
    · split at hr
      · split at hr
        · have h1 : (takeS st n t).2.1 ≤ M := by rcases takeS_line st n t with h | h <;> rw [h] <;> assumption
          have := rdL_rec e M ls (takeS st n t) hls' h1 r hr
          have := takeS_prs st n t
          omega
        · simp at hr
      · split at hr
        · rw [fin_rec e st r hr]
          exact ⟨hst, by omega⟩
        · split at hr
          · rcases List.mem_cons.1 hr with rfl | hr
            · exact ⟨hst, by omega⟩
            · have := rdL_rec e M ls (2, st.2) hls' hst r hr
              have e2 : ((2, st.2) : St).2.2.2.length = st.2.2.2.length := rfl
              omega
          · have := rdL_rec e M ls st hls' hst r hr
            omega
theorem joinS_num : ∀ (l : List (Nat × List UInt8)), ∀ p ∈ joinS l, ∃ q ∈ l, q.1 = p.1 := by
  intro l
  induction l using snocInd with
  | nil => intro p hp; simp [joinS_nil] at hp
  | append_singleton pre x ih =>
    intro p hp
    cases hg : goes x.2 with
    | false =>
      rw [joinS_new pre x hg] at hp
      rcases List.mem_append.1 hp with hp | hp
      · obtain ⟨q, h1, h2⟩ := ih p hp
        exact ⟨q, List.mem_append_left _ h1, h2⟩
      · simp at hp
        subst hp
        exact ⟨p, by simp, rfl⟩
    | true =>
      rw [joinS_on pre x hg] at hp
      unfold addLast at hp
      cases hl : (joinS pre).getLast? with
      | none => rw [hl] at hp; simp at hp
      | some q0 =>
        rw [hl] at hp
        rcases List.mem_append.1 hp with hp | hp
        · obtain ⟨q, h1, h2⟩ := ih p (List.dropLast_subset _ hp)
          exact ⟨q, List.mem_append_left _ h1, h2⟩
        · simp at hp
          subst hp
          obtain ⟨q, h1, h2⟩ := ih q0 (List.mem_of_getLast? hl)
          exact ⟨q, List.mem_append_left _ h1, h2⟩
theorem phys_le (b : List UInt8) : ∀ p ∈ phys b, p.1 ≤ (phys b).length := by
  intro p hp
  obtain ⟨i, hi, rfl⟩ := List.getElem_of_mem hp
  rw [phys_num b i hi]
  omega
theorem lines_le (b : List UInt8) : ∀ p ∈ joinS (phys b), p.1 ≤ b.length + 1 := by
  intro p hp
  obtain ⟨q, h1, h2⟩ := joinS_num _ p hp
  have := phys_le b q h1
  have := phys_len b
  omega
theorem ldR_size (b : List UInt8) : (ldR b).length ≤ b.length + 2 ∧ ∀ r ∈ ldR b, r.1 ≤ b.length + 1 ∧ r.2.2.length ≤ b.length + 1 := by
  have hz : (ldR b = []) ∨ (ldR b = (rdL ((phys b).length + 1) st0 (joinS (phys b))).1) := by
    unfold ldR
    split
    · cases hf : ferr [] (phys b) with
      | some p =>
        obtain ⟨e, n⟩ := p
        rw [rdT_bad hf]
        exact .inl rfl
      | none => rw [rdT_ok hf]; exact .inr rfl
    · exact .inl rfl
  have h1 := (joinS_sizes (phys b)).1
  have h2 := phys_len b
  rcases hz with h | h
  · rw [h]
    exact ⟨Nat.zero_le _, fun r hr => by simp at hr⟩
  · rw [h]
    refine ⟨?_, fun r hr => ?_⟩
    · have := rdL_len ((phys b).length + 1) (joinS (phys b)) st0
      omega
    · have h3 := rdL_rec ((phys b).length + 1) (b.length + 1) (joinS (phys b)) st0 (lines_le b) (Nat.zero_le _) r hr
      refine ⟨h3.1, ?_⟩
      have h4 := h3.2
      have e0 : st0.2.2.2.length = 0 := rfl
      omega
theorem rdL_fault (e M : Nat) (he : e ≤ M) : ∀ (ls : List (Nat × List UInt8)) (st : St), (∀ p ∈ ls, p.1 ≤ M) → st.2.1 ≤ M → (rdL e st ls).2.2 ≤ M
  | [], st, _, hst => by
    rw [rd_end]
    unfold fin
    repeat' split
    all_goals first | exact he | exact hst | exact Nat.zero_le _
  | (n, t) :: ls, st, hls, hst => by
    have hn : n ≤ M := hls (n, t) List.mem_cons_self
    have hls' : ∀ p ∈ ls, p.1 ≤ M := fun p hp => hls p (List.mem_cons_of_mem _ hp)
    rw [rdL]
    split
    · exact rdL_fault e M he ls st hls' hst
    · split
      · split
        · exact rdL_fault e M he ls _ hls' (by rcases takeS_line st n t with h | h <;> rw [h] <;> assumption)
        · exact hn
      · split
        · unfold fin
          repeat' split
          all_goals first | exact he | exact hst | exact Nat.zero_le _
        · split
          · exact rdL_fault e M he ls (2, st.2) hls' hst
          · exact rdL_fault e M he ls st hls' hst
theorem ferr_line : ∀ (l : List (Nat × List UInt8)) (a : List UInt8) (p : Nat × Nat), ferr a l = some p → ∃ q ∈ l, q.1 = p.2
  | [], _, _, h => by cases h
  | x :: l, a, p, h => by
    unfold ferr at h
    cases hf : flt a x.2 with
    | none =>
      rw [hf] at h
      obtain ⟨q, h1, h2⟩ := ferr_line l x.2 p h
      exact ⟨q, List.mem_cons_of_mem _ h1, h2⟩
    | some e =>
      rw [hf] at h
      injection h with h
      subst h
      exact ⟨x, List.mem_cons_self, rfl⟩
theorem rdT_size (b : List UInt8) : (rdT b).2.2 ≤ b.length + 2 := by
  cases hf : ferr [] (phys b) with
  | some p =>
    obtain ⟨e, n⟩ := p
    rw [rdT_bad hf]
    obtain ⟨q, h1, h2⟩ := ferr_line _ _ _ hf
    have := phys_le b q h1
    have := phys_len b
    simp only at h2 ⊢
    omega
  | none =>
    rw [rdT_ok hf]
    have := phys_len b
    exact rdL_fault _ (b.length + 2) (by omega) _ _ (fun p hp => by have := lines_le b p hp; omega) (Nat.zero_le _)

/-- What Load lays, as rows. -/
def LdRw (w : World) (rs : List Rc) (a : Option Addr) (Rs : List RX) : Prop := RRow w a Rs ∧ Rs.length = rs.length ∧ ∀ i (h : i < Rs.length) (h' : i < rs.length), Rs[i].1 = (rs[i].1 : Int) ∧ said Rs[i] = rs[i].2
theorem LdRw.below {w w' : World} {rs : List Rc} {a : Option Addr} {Rs : List RX} (h : LdRw w rs a Rs) (hb : Below w.heap.size w w') : LdRw w' rs a Rs := ⟨h.1.below hb, h.2⟩
theorem ldRw_of {B : Nat} {rs : List Rc} {v : Value} {Rs : List RX} {w : World} (h : LdIs B rs v Rs w) : ∃ a c, v = .slice a rs.length c ∧ LdRw w rs a Rs := by
  obtain ⟨h1, h2, h3⟩ := h
  have hl : Rs.length = rs.length := by have := congrArg List.length h1; simpa using this
  obtain ⟨a, c, rfl, _, _, hr⟩ := h2.row rV_len
  rw [hl]
  refine ⟨a, c, rfl, ⟨hr, fun r hr' => ?_⟩, hl, fun i hi hi' => ?_⟩
  · obtain ⟨a', c', e, k1, k2, k3⟩ := (show GOwn 50 2 pV w B _ r.2.2.2.2 from h3 r hr').row pV_len
    injection e with e1 e2 e3
    rw [e1, e3]
    exact ⟨k3, k1, k2⟩
  · have h4 : (Rs.map (fun r => (r.1, r.2.1, r.2.2.2.2)))[i]? = (rs.map (fun r => ((r.1 : Int), r.2.1, r.2.2)))[i]? := by rw [h1]
    rw [List.getElem?_map, List.getElem?_map, List.getElem?_eq_getElem hi, List.getElem?_eq_getElem hi'] at h4
    simp only [Option.map_some, Option.some.injEq, Prod.mk.injEq] at h4
    obtain ⟨e1, e2, e3⟩ := h4
    refine ⟨e1, ?_⟩
    unfold said
    rw [e2, e3]
theorem loads_any (s : ByteArray) (hs : s.size ≤ 4194304) (w : World) (hWt : WTab w) (hCt : ChgTab w) (n : Nat) (hn : (ldR s.data.toList).length = n) :
    Calls Tryz.prog 4 #[.string s] w fun e w' => ∃ a c Rs, e = .returned (.tuple #[.slice a n c, .int .i64 ((rdT s.data.toList).2.1 : Int), .int .i64 ((rdT s.data.toList).2.2 : Int)]) ∧ LdRw w' (ldR s.data.toList) a Rs ∧ Below w.heap.size w w' := by
  refine (load_any s hs w hWt hCt).mono ?_
  rintro e w' ⟨v, Rs, rfl, h1, h2⟩
  obtain ⟨a, c, rfl, h3⟩ := ldRw_of h1
  rw [hn]
  exact ⟨a, c, Rs, rfl, h3, h2⟩
end Rd
end Go.Proofs.YtoomoicjoockjaaGreatDoor
