import Derived.Test.YtnboimoncpphlabDoorAtPlcM
namespace Go.Proofs.YtnboimoncpphlabDoor
open TextMath (fold lo)
set_option linter.unusedVariables false

def keysB (m : List UInt8) : Bool := m.all isK && !m.isEmpty
def numB (m : List UInt8) : Bool := m.all isD && (m == [48] || (!m.isEmpty && (m.getD 0 0).toNat != 48))
/-- A text taken apart at each byte c. -/
def sp (c : UInt8) : List UInt8 → List (List UInt8)
  | [] => [[]]
  | b :: l => if b = c then [] :: sp c l else ((b :: (sp c l).headD []) :: (sp c l).tail)
def typB (m : List UInt8) : Bool := if m = [] then false else if isL (m.getD 0 0) = true then keysB m else (sp 46 m).all numB && decide (1 < (sp 46 m).length)
def dscB (m : List UInt8) : Bool := (sp 59 m).tail.all keysB && typB ((sp 59 m).headD [])
theorem sp_ne (c : UInt8) : ∀ l, sp c l ≠ []
  | [] => by simp [sp]
  | b :: l => by unfold sp; split <;> simp
theorem sp_cons (c : UInt8) (l : List UInt8) : sp c l = (sp c l).headD [] :: (sp c l).tail := by
  cases h : sp c l with
  | nil => exact absurd h (sp_ne c l)
  | cons a t => rfl
theorem sp_at (c : UInt8) (l : List UInt8) : sp c (c :: l) = [] :: sp c l := by
  conv => lhs; unfold sp
  rw [if_pos rfl]
theorem sp_head (c : UInt8) (l : List UInt8) : (sp c l).headD [] ∈ sp c l := by
  cases h : sp c l with
  | nil => exact absurd h (sp_ne c l)
  | cons a t => exact List.mem_cons_self
theorem sp_on (c b : UInt8) (l : List UInt8) (h : b ≠ c) : sp c (b :: l) = (b :: (sp c l).headD []) :: (sp c l).tail := by
  conv => lhs; unfold sp
  rw [if_neg h]
theorem sp_mem (c : UInt8) : ∀ (l z : List UInt8), z ∈ sp c l → c ∉ z ∧ ∀ b ∈ z, b ∈ l
  | [], z, h => by
    simp [sp] at h
    subst h
    simp
  | b :: l, z, h => by
    by_cases hb : b = c
    · subst hb
      rw [sp_at] at h
      rcases List.mem_cons.1 h with rfl | h
      · simp
      · have := sp_mem b l z h
        exact ⟨this.1, fun x hx => List.mem_cons_of_mem _ (this.2 x hx)⟩
    · rw [sp_on c b l hb] at h
      rcases List.mem_cons.1 h with rfl | h
      · have h0 : (sp c l).headD [] ∈ sp c l := sp_head c l
        have := sp_mem c l _ h0
        refine ⟨fun q => ?_, fun x hx => ?_⟩
        · rcases List.mem_cons.1 q with q | q
          · exact hb q.symm
          · exact this.1 q
        · rcases List.mem_cons.1 hx with rfl | hx
          · exact List.mem_cons_self
          · exact List.mem_cons_of_mem _ (this.2 x hx)
      · have h0 : z ∈ sp c l := by rw [sp_cons]; exact List.mem_cons_of_mem _ h
        have := sp_mem c l z h0
        exact ⟨this.1, fun x hx => List.mem_cons_of_mem _ (this.2 x hx)⟩
theorem dfa59 : ∀ q, q ≤ 9 → dfa q 59 = if dacc q then 7 else 9 := by
  intro q h
  have : ∀ q : Fin 10, dfa q.val 59 = if dacc q.val then 7 else 9 := by decide
  exact this ⟨q, by omega⟩
theorem dfa_leB (q : Nat) (b : UInt8) : dfa q b ≤ 9 := dfa_le q b
theorem run_semis : ∀ (l : List UInt8) (q : Nat), q ≤ 9 → dacc (drun q l) = ((sp 59 l).tail.all (fun z => dacc (drun 7 z)) && dacc (drun q ((sp 59 l).headD [])))
  | [], q, h => by simp [sp, drun]
  | b :: l, q, h => by
    by_cases hb : b = 59
    · subst hb
      rw [sp_at, drun_cons, dfa59 q h]
      show _ = ((sp 59 l).all (fun z => dacc (drun 7 z)) && dacc q)
      cases hq : dacc q with
      | true =>
        rw [if_pos rfl, run_semis l 7 (by omega)]
        conv => rhs; rw [sp_cons]
        rw [List.all_cons, Bool.and_true, Bool.and_comm]
      | false => rw [if_neg (by decide), drun9, Bool.and_false]; rfl
    · rw [sp_on 59 b l hb, drun_cons, run_semis l _ (dfa_leB q b)]
      rfl
theorem stay8 : ∀ (z : List UInt8), 59 ∉ z → drun 8 z = if z.all isK = true then 8 else 9
  | [], _ => rfl
  | b :: z, h => by
    have hb : ¬ b.toNat = 59 := fun q => h (by rw [show b = 59 from UInt8.toNat_inj.1 (by rw [q]; rfl)]; exact List.mem_cons_self)
    rw [drun_cons, List.all_cons]
    show drun (if isK b then 8 else if b.toNat = 59 then 7 else 9) z = _
    cases isK b with
    | true => rw [if_pos rfl, stay8 z (fun q => h (List.mem_cons_of_mem _ q)), Bool.true_and]
    | false => rw [if_neg (by decide), if_neg hb, drun9, if_neg (by simp)]
theorem stay1 : ∀ (z : List UInt8), 59 ∉ z → drun 1 z = if z.all isK = true then 1 else 9
  | [], _ => rfl
  | b :: z, h => by
    have hb : ¬ b.toNat = 59 := fun q => h (by rw [show b = 59 from UInt8.toNat_inj.1 (by rw [q]; rfl)]; exact List.mem_cons_self)
    rw [drun_cons, List.all_cons]
    show drun (if isK b then 1 else if b.toNat = 59 then 7 else 9) z = _
    cases isK b with
    | true => rw [if_pos rfl, stay1 z (fun q => h (List.mem_cons_of_mem _ q)), Bool.true_and]
    | false => rw [if_neg (by decide), if_neg hb, drun9, if_neg (by simp)]
theorem keys7 (z : List UInt8) (h : 59 ∉ z) : dacc (drun 7 z) = keysB z := by
  unfold keysB
  cases z with
  | nil => rfl
  | cons b z =>
    rw [drun_cons, List.all_cons]
    show dacc (drun (if isK b then 8 else 9) z) = _
    cases isK b with
    | true =>
      rw [if_pos rfl, stay8 z (fun q => h (List.mem_cons_of_mem _ q)), Bool.true_and]
      cases z.all isK <;> rfl
    | false => rw [if_neg (by decide), drun9]; rfl
/-- A number's states. -/
def nst (q : Nat) : Bool := q == 2 || q == 3 || q == 5 || q == 6
theorem digs (q : Nat) (hq : q = 3 ∨ q = 6) : ∀ (z : List UInt8), 59 ∉ z → 46 ∉ z → drun q z = if z.all isD = true then q else 9
  | [], _, _ => rfl
  | b :: z, h, h2 => by
    have hb : ¬ b.toNat = 59 := fun q => h (by rw [show b = 59 from UInt8.toNat_inj.1 (by rw [q]; rfl)]; exact List.mem_cons_self)
    have hb2 : ¬ b.toNat = 46 := fun q => h2 (by rw [show b = 46 from UInt8.toNat_inj.1 (by rw [q]; rfl)]; exact List.mem_cons_self)
    have hd : dfa q b = if isD b = true then q else 9 := by
      rcases hq with rfl | rfl
      · show (if isD b then 3 else if b.toNat = 46 then 4 else 9) = _
        rw [if_neg hb2]
      · show (if isD b then 6 else if b.toNat = 46 then 4 else if b.toNat = 59 then 7 else 9) = _
        rw [if_neg hb2, if_neg hb]
    rw [drun_cons, List.all_cons, hd]
    cases isD b with
    | true => rw [if_pos rfl, digs q hq z (fun q => h (List.mem_cons_of_mem _ q)) (fun q => h2 (List.mem_cons_of_mem _ q)), Bool.true_and]
    | false => rw [if_neg (by decide), drun9, if_neg (by simp)]
theorem num_run (q : Nat) (z : List UInt8) (h : 59 ∉ z) (h2 : 46 ∉ z) (hq : q = 0 ∧ (∀ b k, z = b :: k → isL b = false) ∨ q = 4) :
    nst (drun q z) = numB z ∧ dacc (drun q z) = (decide (q = 4) && numB z) := by
  cases z with
  | nil => rcases hq with ⟨rfl, _⟩ | rfl <;> exact ⟨rfl, rfl⟩
  | cons b z =>
    have hz : 59 ∉ z := fun q => h (List.mem_cons_of_mem _ q)
    have hz2 : 46 ∉ z := fun q => h2 (List.mem_cons_of_mem _ q)
    have hd : dfa q b = if b.toNat = 48 then (if q = 0 then 2 else 5) else if isD b = true then (if q = 0 then 3 else 6) else 9 := by
      rcases hq with ⟨rfl, hl⟩ | rfl
      · show (if isL b then 1 else if b.toNat = 48 then 2 else if isD b then 3 else 9) = _
        rw [hl b z rfl]; rfl
      · rfl
    have hq04 : q = 0 ∨ q = 4 := by rcases hq with ⟨h, _⟩ | h <;> simp [h]
    rw [drun_cons, hd]
    by_cases h48 : b.toNat = 48
    · rw [if_pos h48]
      obtain ⟨_, hD⟩ := dig48 b h48
      have hb48 : b = 48 := UInt8.toNat_inj.1 (by rw [h48]; rfl)
      cases z with
      | nil =>
        subst hb48
        rcases hq04 with rfl | rfl <;> exact ⟨by decide, by decide⟩
      | cons c z =>
        have hc : ¬ c.toNat = 59 := fun q => hz (by rw [show c = 59 from UInt8.toNat_inj.1 (by rw [q]; rfl)]; exact List.mem_cons_self)
        have hc2 : ¬ c.toNat = 46 := fun q => hz2 (by rw [show c = 46 from UInt8.toNat_inj.1 (by rw [q]; rfl)]; exact List.mem_cons_self)
        have h9 : dfa (if q = 0 then 2 else 5) c = 9 := by
          rcases hq04 with rfl | rfl
          · show (if c.toNat = 46 then 4 else 9) = 9; rw [if_neg hc2]
          · show (if c.toNat = 46 then 4 else if c.toNat = 59 then 7 else 9) = 9; rw [if_neg hc2, if_neg hc]
        have hn : numB (b :: c :: z) = false := by
          unfold numB
          subst hb48
          rw [Bool.and_eq_false_iff]
          right
          simp
        rw [drun_cons, h9, drun9, hn]
        exact ⟨rfl, by simp [dacc]⟩
    · rw [if_neg h48]
      cases hD : isD b with
      | true =>
        rw [if_pos rfl, digs _ (by rcases hq04 with rfl | rfl <;> simp) z hz hz2]
        have hn : numB (b :: z) = z.all isD := by
          unfold numB
          rw [List.all_cons, hD, Bool.true_and]
          have : ((b :: z) == [48] || (!(b :: z).isEmpty && ((b :: z).getD 0 0).toNat != 48)) = true := by
            have : (((b :: z).getD 0 0).toNat != 48) = true := by simpa using h48
            rw [this]; simp
          rw [this, Bool.and_true]
        rw [hn]
        cases z.all isD <;> rcases hq04 with rfl | rfl <;> exact ⟨rfl, rfl⟩
      | false =>
        have hn : numB (b :: z) = false := by unfold numB; rw [List.all_cons, hD]; rfl
        rw [if_neg (by decide), drun9, hn]
        exact ⟨rfl, by simp [dacc]⟩
theorem dot_dfa (r : Nat) (hr : r = 0 ∨ (2 ≤ r ∧ r ≤ 6) ∨ r = 9) : dfa r 46 = if nst r = true then 4 else 9 := by
  have : ∀ q : Fin 10, (q.val = 0 ∨ (2 ≤ q.val ∧ q.val ≤ 6) ∨ q.val = 9) → dfa q.val 46 = if nst q.val = true then 4 else 9 := by decide
  exact this ⟨r, by omega⟩ hr
theorem live_dfa (r : Nat) (b : UInt8) (hr : 2 ≤ r ∧ r ≤ 6) (h59 : ¬ b.toNat = 59) : (2 ≤ dfa r b ∧ dfa r b ≤ 6) ∨ dfa r b = 9 := by
  have hrr : r = 2 ∨ r = 3 ∨ r = 4 ∨ r = 5 ∨ r = 6 := by omega
  rcases hrr with rfl | rfl | rfl | rfl | rfl
  · rw [show dfa 2 b = if b.toNat = 46 then 4 else 9 from rfl]; split <;> omega
  · rw [show dfa 3 b = if isD b then 3 else if b.toNat = 46 then 4 else 9 from rfl]
    split
    · omega
    · split <;> omega
  · rw [show dfa 4 b = if b.toNat = 48 then 5 else if isD b then 6 else 9 from rfl]
    split
    · omega
    · split <;> omega
  · rw [show dfa 5 b = if b.toNat = 46 then 4 else if b.toNat = 59 then 7 else 9 from rfl, if_neg h59]; split <;> omega
  · rw [show dfa 6 b = if isD b then 6 else if b.toNat = 46 then 4 else if b.toNat = 59 then 7 else 9 from rfl, if_neg h59]
    split
    · omega
    · split <;> omega
theorem run_dots : ∀ (l : List UInt8) (r : Nat), 59 ∉ l → (r = 0 ∨ (2 ≤ r ∧ r ≤ 6) ∨ r = 9) → (r = 0 → ∀ b k, l = b :: k → isL b = false) →
    dacc (drun r l) = if (sp 46 l).tail = [] then dacc (drun r ((sp 46 l).headD [])) else (nst (drun r ((sp 46 l).headD [])) && (sp 46 l).tail.all numB)
  | [], r, _, _, _ => rfl
  | b :: l, r, h, hr, hl => by
    have h' : 59 ∉ l := fun q => h (List.mem_cons_of_mem _ q)
    by_cases hb : b = 46
    · subst hb
      rw [sp_at, drun_cons, dot_dfa r hr]
      show _ = if sp 46 l = [] then _ else nst r && (sp 46 l).all numB
      rw [if_neg (sp_ne 46 l)]
      cases hn : nst r with
      | false => rw [if_neg (by decide), drun9]; rfl
      | true =>
        rw [if_pos rfl, run_dots l 4 h' (by omega) (fun q => by omega), Bool.true_and]
        have hm := sp_mem 46 l ((sp 46 l).headD []) (sp_head _ _)
        obtain ⟨n1, n2⟩ := num_run 4 ((sp 46 l).headD []) (fun q => h' (hm.2 _ q)) hm.1 (Or.inr rfl)
        conv => rhs; rw [sp_cons]
        rw [List.all_cons, n1, n2]
        by_cases ht : (sp 46 l).tail = []
        · rw [if_pos ht, ht]; simp
        · rw [if_neg ht]
    · rw [sp_on 46 b l hb, drun_cons]
      have hb59 : ¬ b.toNat = 59 := fun q => h (by rw [show b = 59 from UInt8.toNat_inj.1 (by rw [q]; rfl)]; exact List.mem_cons_self)
      have hr' : dfa r b = 0 ∨ (2 ≤ dfa r b ∧ dfa r b ≤ 6) ∨ dfa r b = 9 := by
        rcases hr with rfl | hr | rfl
        · have : dfa 0 b = if b.toNat = 48 then 2 else if isD b then 3 else 9 := by
            show (if isL b then 1 else _) = _
            rw [hl rfl b l rfl]; rfl
          rw [this]
          split
          · omega
          · split <;> omega
        · exact Or.inr (live_dfa r b hr hb59)
        · right; right; rfl
      have hnz : dfa r b ≠ 0 := by
        rcases hr with rfl | hr | rfl
        · have : dfa 0 b = if b.toNat = 48 then 2 else if isD b then 3 else 9 := by
            show (if isL b then 1 else _) = _
            rw [hl rfl b l rfl]; rfl
          rw [this]
          split
          · omega
          · split <;> omega
        · have := live_dfa r b hr hb59; omega
        · show (9 : Nat) ≠ 0; omega
      rw [run_dots l _ h' hr' (fun q => absurd q hnz)]
      rfl
theorem typ_dfa (m : List UInt8) (h : 59 ∉ m) : typB m = dacc (drun 0 m) := by
  unfold typB
  cases m with
  | nil => rfl
  | cons b z =>
    rw [if_neg (by simp)]
    show (if isL b = true then _ else _) = _
    cases hb : isL b with
    | true =>
      rw [if_pos rfl, drun_cons]
      show _ = dacc (drun (if isL b then 1 else _) z)
      rw [hb, if_pos rfl, stay1 z (fun q => h (List.mem_cons_of_mem _ q))]
      unfold keysB
      rw [List.all_cons]
      have hk : isK b = true := by unfold isK; rw [hb]; rfl
      rw [hk, Bool.true_and]
      cases z.all isK <;> rfl
    | false =>
      rw [if_neg (by decide), run_dots (b :: z) 0 h (by omega) (fun _ c k e => by injection e with e _; rw [← e]; exact hb)]
      have hm := sp_mem 46 (b :: z) ((sp 46 (b :: z)).headD []) (sp_head _ _)
      obtain ⟨n1, n2⟩ := num_run 0 ((sp 46 (b :: z)).headD []) (fun q => h (hm.2 _ q)) hm.1 (Or.inl ⟨rfl, fun c k e => by
        by_cases hb46 : b = 46
        · subst hb46; rw [sp_at] at e; simp at e
        · rw [sp_on 46 b z hb46] at e
          simp at e
          rw [← e.1]; exact hb⟩)
      rw [n1, n2]
      conv => lhs; rw [sp_cons]
      rw [List.all_cons, List.length_cons]
      by_cases ht : (sp 46 (b :: z)).tail = []
      · rw [if_pos ht, ht]; simp
      · rw [if_neg ht]
        have : 0 < (sp 46 (b :: z)).tail.length := List.length_pos_iff.2 ht
        rw [decide_eq_true (by omega), Bool.and_true]
theorem dsc_dfaB (m : List UInt8) : dscB m = dacc (drun 0 m) := by
  unfold dscB
  rw [run_semis m 0 (by omega)]
  have hm := sp_mem 59 m ((sp 59 m).headD []) (sp_head _ _)
  rw [typ_dfa _ hm.1]
  congr 1
  rw [Bool.eq_iff_iff, List.all_eq_true, List.all_eq_true]
  have hk : ∀ z ∈ (sp 59 m).tail, dacc (drun 7 z) = keysB z := fun z hz => keys7 z (sp_mem 59 m z (by rw [sp_cons]; exact List.mem_cons_of_mem _ hz)).1
  exact ⟨fun h z hz => by rw [hk z hz]; exact h z hz, fun h z hz => by rw [← hk z hz]; exact h z hz⟩
theorem lo_isL (b : UInt8) : isL (lo b) = (decide (97 ≤ (b.toNat : Int) ∧ (b.toNat : Int) ≤ 122) || decide (65 ≤ (b.toNat : Int) ∧ (b.toNat : Int) ≤ 90)) := by
  have : ∀ n : Fin 256, isL (lo (UInt8.ofNat n.val)) = (decide (97 ≤ (n.val : Int) ∧ (n.val : Int) ≤ 122) || decide (65 ≤ (n.val : Int) ∧ (n.val : Int) ≤ 90)) := by decide +kernel
  have h := this ⟨b.toNat, b.toNat_lt⟩
  rw [UInt8.ofNat_toNat] at h
  exact h
theorem lo_isD (b : UInt8) : isD (lo b) = isD b := by
  have : ∀ n : Fin 256, isD (lo (UInt8.ofNat n.val)) = isD (UInt8.ofNat n.val) := by decide +kernel
  have h := this ⟨b.toNat, b.toNat_lt⟩
  rw [UInt8.ofNat_toNat] at h
  exact h
theorem lo_eq (c b : UInt8) (hc : c = 59 ∨ c = 46 ∨ c = 48) : lo b = c ↔ b = c := by
  have : ∀ n : Fin 256, (lo (UInt8.ofNat n.val) = 59 ↔ UInt8.ofNat n.val = 59) ∧ (lo (UInt8.ofNat n.val) = 46 ↔ UInt8.ofNat n.val = 46) ∧ (lo (UInt8.ofNat n.val) = 48 ↔ UInt8.ofNat n.val = 48) := by decide +kernel
  have h := this ⟨b.toNat, b.toNat_lt⟩
  rw [UInt8.ofNat_toNat] at h
  rcases hc with rfl | rfl | rfl
  · exact h.1
  · exact h.2.1
  · exact h.2.2
theorem fold_consR (b : UInt8) (l : List UInt8) : fold (b :: l) = lo b :: fold l := rfl
theorem fold_sp (c : UInt8) (hc : c = 59 ∨ c = 46) : ∀ l, sp c (fold l) = (sp c l).map fold
  | [] => rfl
  | b :: l => by
    have hl := lo_eq c b (by rcases hc with h | h <;> simp [h])
    rw [fold_consR]
    by_cases hb : b = c
    · rw [hl.2 hb, sp_at, hb, sp_at, List.map_cons, fold_sp c hc l]
      rfl
    · rw [sp_on c (lo b) _ (fun q => hb (hl.1 q)), sp_on c b l hb, List.map_cons, fold_sp c hc l]
      have := sp_cons c l
      cases h : sp c l with
      | nil => exact absurd h (sp_ne c l)
      | cons a t => rfl
end Go.Proofs.YtnboimoncpphlabDoor
