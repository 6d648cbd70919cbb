import Derived.Test.YtkknenmpdimdbaaGreatDoorQD
import Derived.Test.YtkknenmpdimdbaaGreatDoorQG
namespace Go.Proofs.YtkknenmpdimdbaaGreatDoor
namespace Pa
open TextMath (fold lo normal check wo seqLen check_good check_bad check_ind check_app_good seqLen_le)
open Ke (tyOk tyC tyR utf PR mst ec escF escV pt1 ptT ptx OkP OkI OkD Gd typ_good)
set_option linter.unusedVariables false
set_option linter.unusedSimpArgs false

/-- Nothing, or a comma or a plus. -/
def En (r : List UInt8) : Prop := r = [] ∨ ∃ c t, r = c :: t ∧ (c = 44 ∨ c = 43)
theorem En.kO {r : List UInt8} (h : En r) : kO r = 0 := by
  rcases h with rfl | ⟨c, t, rfl, h⟩
  · rfl
  · unfold Pa.kO
    simp [h]
def mstB : List UInt8 := [92, 34, 43, 44, 59, 60, 62]
theorem mst_es {n i : Nat} {b : UInt8} (h : mst n i b = true) : es b = true := by
  have h2 : b = 92 ∨ b = 34 ∨ b = 43 ∨ b = 44 ∨ b = 59 ∨ b = 60 ∨ b = 62 ∨ b = 35 ∨ b = 32 := by
    unfold mst at h
    simp only [Bool.or_eq_true, Bool.and_eq_true, beq_iff_eq] at h
    rcases h with (((((((h | h) | h) | h) | h) | h) | h) | ⟨h, _⟩) | ⟨h, _⟩ <;> simp [h]
  rcases h2 with rfl | rfl | rfl | rfl | rfl | rfl | rfl | rfl | rfl <;> decide
theorem not_mst {n i : Nat} {b : UInt8} (h : mst n i b = false) : b ≠ 92 ∧ b ≠ 44 ∧ b ≠ 43 ∧ (b = 0 ∨ bar b = false) ∧ (b = 32 → i ≠ 0 ∧ i + 1 ≠ n) ∧ (b = 35 → i ≠ 0) := by
  unfold mst at h
  simp only [Bool.or_eq_false_iff, Bool.and_eq_false_iff, beq_eq_false_iff_ne] at h
  obtain ⟨⟨⟨⟨⟨⟨⟨⟨h1, h2⟩, h3⟩, h4⟩, h5⟩, h6⟩, h7⟩, h8⟩, h9⟩ := h
  refine ⟨h1, h4, h3, ?_, fun e => ?_, fun e => ?_⟩
  · by_cases h0 : b = 0
    · exact Or.inl h0
    · right
      unfold bar
      simp [h0, h2, h5, h6, h7]
  · rcases h9 with h9 | h9
    · exact absurd e h9
    · simpa using h9
  · rcases h8 with h8 | h8
    · exact absurd e h8
    · simpa using h8
theorem hb00 : hb 48 48 = 0 := by decide
/-- One byte of a printed value is read back. -/
theorem tv_one {n N i : Nat} {b : UInt8} {X a : List UInt8} {c : Nat} (hN : i < N) : ∃ c', tv (n + 1) (ec N i b ++ X) a c = tv n X (a ++ [b]) c' ∧ (i + 1 = N → c' = a.length + 1) := by
  unfold ec
  by_cases h0 : b = 0
  · subst h0
    refine ⟨a.length + 1, ?_, fun _ => rfl⟩
    rw [if_pos rfl, tv_step]
    have hk : kO ([92, 48, 48] ++ X) = 3 := by
      show kO (92 :: 48 :: 48 :: X) = 3
      unfold kO kB
      have e1 : es 48 = false := by decide
      have e2 : hd 48 = true := by decide
      simp [e1, e2]
    rw [hk]
    simp only [if_neg (by decide : ¬ (3 : Nat) = 0), if_neg (by decide : ¬ (3 : Nat) = 1), if_neg (by decide : ¬ (3 : Nat) = 2), if_pos]
    show tv n X (a ++ [hb 48 48]) (a.length + 1) = _
    rw [hb00]
  · rw [if_neg h0]
    by_cases hm : mst N i b = true
    · rw [if_pos hm]
      refine ⟨a.length + 1, ?_, fun _ => rfl⟩
      rw [tv_step]
      have hk : kO ([92, b] ++ X) = 4 := by
        show kO (92 :: b :: X) = 4
        unfold kO kB
        simp [mst_es hm]
      rw [hk]
      rfl
    · have hm' : mst N i b = false := by simpa using hm
      rw [if_neg hm]
      obtain ⟨m1, m2, m3, m4, m5, m6⟩ := not_mst hm'
      have hbar : bar b = false := m4.resolve_left h0
      by_cases h32 : b = 32
      · refine ⟨c, ?_, fun e => absurd e (m5 h32).2⟩
        rw [tv_step]
        have hk : kO ([b] ++ X) = 6 := by
          show kO (b :: X) = 6
          unfold kO
          simp [m1, m2, m3, hbar, h32]
          subst h32
          simp [hbar]
        rw [hk]
        rfl
      · refine ⟨a.length + 1, ?_, fun _ => rfl⟩
        rw [tv_step]
        have hk : kO ([b] ++ X) = 5 := by
          show kO (b :: X) = 5
          unfold kO
          simp [m1, m2, m3, hbar, h32]
        rw [hk]
        rfl
theorem tv_esc (N : Nat) (r : List UInt8) (hr : En r) : ∀ (l : List UInt8) (n i : Nat) (a : List UInt8) (c : Nat), N = i + l.length → l.length < n → a.length = i → (l = [] → c = a.length) → tv n (escF N i l ++ r) a c = .ok (a ++ l, r)
  | [], n, i, a, c, hN, hn, ha, hc => by
    obtain ⟨m, rfl⟩ : ∃ m, n = m + 1 := ⟨n - 1, by simp at hn; omega⟩
    show tv (m + 1) ([] ++ r) a c = _
    rw [List.nil_append, tv_step, hr.kO, if_pos rfl, hc rfl, List.take_length, List.append_nil]
  | b :: l, n, i, a, c, hN, hn, ha, hc => by
    obtain ⟨m, rfl⟩ : ∃ m, n = m + 1 := ⟨n - 1, by simp at hn; omega⟩
    rw [List.length_cons] at hN hn
    obtain ⟨c', e, hc'⟩ := tv_one (n := m) (N := N) (i := i) (b := b) (X := escF N (i + 1) l ++ r) (a := a) (c := c) (by omega)
    show tv (m + 1) ((ec N i b ++ escF N (i + 1) l) ++ r) a c = _
    rw [List.append_assoc, e, tv_esc N r hr l m (i + 1) (a ++ [b]) c' (by omega) (by omega) (by simp [ha]) (fun hl => by
      subst hl
      rw [List.length_append]
      exact hc' (by simp at hN; omega))]
    simp
theorem escF_len (N : Nat) : ∀ (l : List UInt8) (i : Nat), l.length ≤ (escF N i l).length
  | [], _ => Nat.zero_le _
  | b :: t, i => by
    have := escF_len N t (i + 1)
    have h1 : 1 ≤ (ec N i b).length := by unfold ec; split <;> (try split) <;> simp
    simp only [escF, List.length_append, List.length_cons]
    omega
theorem esc_head (v r : List UInt8) (hr : En r) : (escV v ++ r).head? ≠ some 35 ∧ (escV v ++ r).head? ≠ some 32 := by
  unfold escV
  cases v with
  | nil =>
    show (([] : List UInt8) ++ r).head? ≠ some 35 ∧ (([] : List UInt8) ++ r).head? ≠ some 32
    rw [List.nil_append]
    rcases hr with rfl | ⟨c, t, rfl, h⟩
    · exact ⟨by simp, by simp⟩
    · rcases h with rfl | rfl <;> exact ⟨by simp, by simp⟩
  | cons b t =>
    show ((ec (b :: t).length 0 b ++ escF (b :: t).length 1 t) ++ r).head? ≠ _ ∧ ((ec (b :: t).length 0 b ++ escF (b :: t).length 1 t) ++ r).head? ≠ _
    rw [List.append_assoc]
    unfold ec
    by_cases h0 : b = 0
    · rw [if_pos h0]; exact ⟨by simp, by simp⟩
    · rw [if_neg h0]
      by_cases hm : mst (b :: t).length 0 b = true
      · rw [if_pos hm]; exact ⟨by simp, by simp⟩
      · rw [if_neg hm]
        obtain ⟨_, _, _, _, m5, m6⟩ := not_mst (by simpa using hm : mst (b :: t).length 0 b = false)
        exact ⟨by simp only [List.singleton_append, List.head?_cons]; intro e; injection e with e; exact m6 e rfl, by simp only [List.singleton_append, List.head?_cons]; intro e; injection e with e; exact (m5 e).1 rfl⟩
theorem sp_id {l : List UInt8} (h : l.head? ≠ some 32) : sp l = l := by
  unfold sp
  cases l with
  | nil => rfl
  | cons c t =>
    rw [List.dropWhile_cons]
    have : (c == 32) = false := by rw [beq_eq_false_iff_ne]; intro e; subst e; exact h rfl
    simp [this]
theorem pv_esc (hx : List UInt8 → Option VR) (v r : List UInt8) (hr : En r) (hu : utf v = true) : pv hx (escV v ++ r) = some (.ok (v, r)) := by
  unfold pv
  rw [if_neg (esc_head v r hr).1]
  have : tv ((escV v ++ r).length + 1) (escV v ++ r) [] 0 = .ok (v, r) := by
    have := tv_esc v.length r hr v ((escV v ++ r).length + 1) 0 [] 0 (by omega) (by
      have := escF_len v.length v 0
      rw [List.length_append]
      unfold escV
      omega) rfl (fun _ => rfl)
    rw [List.nil_append] at this
    exact this
  rw [this]
  simp [hu]
theorem tb_lo (c : UInt8) (h : Gd (lo c)) : tb c = true := by
  have key : ∀ n : Fin 256, (Go.Proofs.YtkknenmpdimdbaaGreatDoor.isK (lo (UInt8.ofNat n.val)) = true ∨ (lo (UInt8.ofNat n.val)).toNat = 46) → tb (UInt8.ofNat n.val) = true := by decide +kernel
  have h2 := key ⟨c.toNat, c.toNat_lt⟩
  rw [UInt8.ofNat_toNat] at h2
  exact h2 h
theorem ty_tb (t : List UInt8) (h : tyOk t = true) : ∀ c ∈ t, tb c = true := by
  unfold tyOk at h
  have h := of_decide_eq_true h
  unfold tyR parsT at h
  split at h
  · rename_i hc
    intro c hm
    have hk := typ_good (S (fold t)).data.toList
    rw [List.take_of_length_le (by rw [size_l]; omega), S_l] at hk
    exact tb_lo c (hk (lo c) (List.mem_map_of_mem hm))
  · simp at h
theorem tw_all (p : UInt8 → Bool) (t r : List UInt8) (h : ∀ c ∈ t, p c = true) (hr : ∀ c, r.head? = some c → p c = false) : (t ++ r).takeWhile p = t ∧ (t ++ r).dropWhile p = r := by
  induction t with
  | nil =>
    rw [List.nil_append]
    cases r with
    | nil => exact ⟨rfl, rfl⟩
    | cons c r => rw [List.takeWhile_cons, List.dropWhile_cons, hr c rfl]; exact ⟨rfl, rfl⟩
  | cons c t ih =>
    obtain ⟨h1, h2⟩ := ih (fun x hx => h x (List.mem_cons_of_mem _ hx))
    rw [List.cons_append, List.takeWhile_cons, List.dropWhile_cons, h c (List.mem_cons_self ..)]
    simp [h1, h2]
theorem pt_ok (ahead : List (List UInt8)) (t r : List UInt8) (ht : tyOk t = true) (ha : tyC t ∉ ahead) (hr : r.head? ≠ some 32) : pt ahead (t ++ 61 :: r) = .ok (t, r) := by
  obtain ⟨h1, h2⟩ := tw_all tb t (61 :: r) (ty_tb t ht) (fun c e => by simp at e; subst e; decide)
  unfold pt
  rw [h1, h2, if_neg (by rw [ht]; decide), if_neg ha, sp_id (by simp), if_pos (by simp)]
  show Except.ok (t, sp r) = _
  rw [sp_id hr]
theorem ty_head (t r : List UInt8) (h : tyOk t = true) : (t ++ 61 :: r).head? ≠ some 32 := by
  have h2 := ty_tb t h
  cases t with
  | nil => simp
  | cons c t =>
    intro e
    simp at e
    have := h2 c (List.mem_cons_self ..)
    rw [e] at this
    revert this
    decide
/-- A part that was printed is read back. -/
theorem prt_ok (hx : List UInt8 → Option VR) (num : Nat) (hnum : num ≠ 64) (r : List UInt8) (hr : r = [] ∨ ∃ t, r = 44 :: t) : ∀ (k : List PR) (p : PR) (n : Nat) (ps : List PR), OkP (ps ++ p :: k) → k.length < n → prt hx n num ps (pt1 p ++ (ptT k ++ r)) = some (.ok (ps ++ p :: k, r)) := by
  intro k
  induction k with
  | nil =>
    intro p n ps hok hn
    obtain ⟨m, rfl⟩ : ∃ m, n = m + 1 := ⟨n - 1, by omega⟩
    have hE : En r := by
      rcases hr with rfl | ⟨t, rfl⟩
      · exact Or.inl rfl
      · exact Or.inr ⟨_, _, rfl, Or.inl rfl⟩
    have h8 : ps.length ≠ 8 := by have := hok.2.1; simp at this; omega
    obtain ⟨hi, h1, h2, h3⟩ := hok.2.2 ps.length (by simp)
    rw [List.getElem_append_right (Nat.le_refl _)] at h1 h2 h3
    simp only [Nat.sub_self, List.getElem_cons_zero] at h1 h2 h3
    rw [List.take_left] at h2
    show prt hx (m + 1) num ps (pt1 p ++ ([] ++ r)) = _
    rw [List.nil_append]
    unfold prt pt1
    rw [if_neg (by omega), List.append_assoc, List.cons_append, sp_id (ty_head _ _ h1), pt_ok _ _ _ h1 h2 (esc_head p.2 r hE).2]
    dsimp only
    rw [pv_esc hx _ _ hE h3]
    dsimp only
    rw [if_neg (by rcases hr with rfl | ⟨t, rfl⟩ <;> simp)]
  | cons q k ih =>
    intro p n ps hok hn
    rw [List.length_cons] at hn
    obtain ⟨m, rfl⟩ : ∃ m, n = m + 1 := ⟨n - 1, by omega⟩
    have e : ptT (q :: k) ++ r = 43 :: (pt1 q ++ (ptT k ++ r)) := by simp [ptT]
    have hE : En (ptT (q :: k) ++ r) := by rw [e]; exact Or.inr ⟨_, _, rfl, Or.inr rfl⟩
    have h8 : ps.length ≠ 8 := by have := hok.2.1; simp at this; omega
    obtain ⟨hi, h1, h2, h3⟩ := hok.2.2 ps.length (by simp)
    rw [List.getElem_append_right (Nat.le_refl _)] at h1 h2 h3
    simp only [Nat.sub_self, List.getElem_cons_zero] at h1 h2 h3
    rw [List.take_left] at h2
    have hrec := ih q m (ps ++ [p]) (by rw [List.append_assoc]; exact hok) (by omega)
    unfold prt
    rw [if_neg (by omega)]
    show (match pt (ps.map fun p => tyC p.1) (sp ((p.1 ++ 61 :: escV p.2) ++ (ptT (q :: k) ++ r))) with | .error e => _ | .ok x => _) = _
    rw [List.append_assoc, List.cons_append, sp_id (ty_head _ _ h1), pt_ok _ _ _ h1 h2 (esc_head p.2 _ hE).2]
    dsimp only
    rw [pv_esc hx _ _ hE h3]
    dsimp only
    rw [if_pos (by rw [e]; rfl), e]
    show prt hx m num (ps ++ [p]) (pt1 q ++ (ptT k ++ r)) = _
    rw [hrec, List.append_assoc]
    rfl
end Pa
end Go.Proofs.YtkknenmpdimdbaaGreatDoor

namespace Go.Proofs.YtkknenmpdimdbaaGreatDoor
namespace Pa
open TextMath (fold lo normal check wo seqLen check_good check_bad check_ind check_app_good seqLen_le)
open Ke (tyOk tyC tyR utf PR mst ec escF escV pt1 ptT ptx OkP OkI OkD Gd typ_good)
set_option linter.unusedVariables false
set_option linter.unusedSimpArgs false

theorem chk_low (c : UInt8) (h : c.toNat < 128) : (check [c]).1 = true := by
  have key : ∀ n : Fin 128, (check [UInt8.ofNat n.val]).1 = true := by decide +kernel
  have := key ⟨c.toNat, h⟩
  rw [UInt8.ofNat_toNat] at this
  exact this
theorem chk_app {a b : List UInt8} (h : (check a).1 = true) (h2 : (check b).1 = true) : (check (a ++ b)).1 = true := by
  rw [check_app_good _ _ h]
  exact h2
theorem chk_asc : ∀ (l : List UInt8), (∀ c ∈ l, c.toNat < 128) → (check l).1 = true
  | [], _ => rfl
  | c :: l, h => by
    have h1 := chk_low c (h c (List.mem_cons_self ..))
    have h2 := chk_asc l (fun x hx => h x (List.mem_cons_of_mem _ hx))
    exact chk_app (a := [c]) h1 h2
theorem tb_low (c : UInt8) (h : tb c = true) : c.toNat < 128 := by
  unfold tb at h
  simp only [Bool.or_eq_true, decide_eq_true_eq] at h
  omega
theorem escF_app (N : Nat) : ∀ (a b : List UInt8) (i : Nat), escF N i (a ++ b) = escF N i a ++ escF N (i + a.length) b
  | [], b, i => by simp [escF]
  | x :: a, b, i => by
    have := escF_app N a b (i + 1)
    simp only [List.cons_append, escF, this, List.append_assoc, List.length_cons]
    rw [show i + 1 + a.length = i + (a.length + 1) from by omega]
theorem ec_high (N i : Nat) (b : UInt8) (h : 128 ≤ b.toNat) : ec N i b = [b] := by
  unfold ec
  rw [if_neg (fun e => by subst e; exact absurd h (by decide))]
  rw [if_neg]
  intro hm
  have := mst_es hm
  have h2 : ∀ n : Fin 256, 128 ≤ (UInt8.ofNat n.val).toNat → es (UInt8.ofNat n.val) = false := by decide +kernel
  have h3 := h2 ⟨b.toNat, b.toNat_lt⟩
  rw [UInt8.ofNat_toNat] at h3
  rw [h3 h] at this
  cases this
theorem escF_high (N : Nat) : ∀ (l : List UInt8) (i : Nat), (∀ c ∈ l, 128 ≤ c.toNat) → escF N i l = l
  | [], _, _ => rfl
  | c :: l, i, h => by
    rw [show escF N i (c :: l) = ec N i c ++ escF N (i + 1) l from rfl, ec_high N i c (h c (List.mem_cons_self ..)), escF_high N l (i + 1) (fun x hx => h x (List.mem_cons_of_mem _ hx))]
    rfl
theorem chk_ec (N i : Nat) (c : UInt8) (h : (check [c]).1 = true) : (check (ec N i c)).1 = true := by
  unfold ec
  split
  · decide
  · split
    · exact chk_app (a := [92]) (by decide) h
    · exact h
theorem chk_esc (N : Nat) : ∀ (n : Nat) (l : List UInt8), l.length ≤ n → ∀ i, (check l).1 = true → (check (escF N i l)).1 = true := by
  refine check_ind (M := fun l => ∀ i, (check l).1 = true → (check (escF N i l)).1 = true) (fun i h => h) (fun l h1 h2 i h => ?_) (fun l h1 ih i h => ?_)
  · rw [check_bad l h1 h2] at h
    cases h
  · rw [check_good l h1] at h
    have hle := seqLen_le l
    have hl : escF N i l = escF N i (l.take (seqLen l)) ++ escF N (i + (l.take (seqLen l)).length) (l.drop (seqLen l)) := by rw [← escF_app, List.take_append_drop]
    have h3 := ih (i + (l.take (seqLen l)).length) h
    have ht : (check (l.take (seqLen l))).1 = true := by
      have e := TextMath.seqLen_take l (seqLen l) (Nat.le_refl _) (by omega)
      rw [check_good _ (by rw [e]; exact h1), e]
      rw [List.drop_eq_nil_of_le (by rw [List.length_take]; omega)]
      rfl
    rw [hl]
    refine chk_app ?_ h3
    by_cases h2 : 2 ≤ seqLen l
    · rw [escF_high N _ i (fun c hc => ?_)]
      · exact ht
      · obtain ⟨k, hk, hx⟩ := List.getElem_of_mem hc
        rw [List.length_take] at hk
        have := Bl.seq_high l h2 k (by omega)
        rw [List.getElem_take] at hx
        rw [List.getD_eq_getElem?_getD, List.getElem?_eq_getElem (by omega), hx] at this
        exact this
    · have h1' : seqLen l = 1 := by omega
      rw [h1'] at ht ⊢
      match l, hle with
      | [], hh => rw [h1'] at hh; simp at hh
      | c :: r, _ =>
        show (check (ec N i c ++ escF N (i + 1) [])).1 = true
        have ht' : (check [c]).1 = true := ht
        show (check (ec N i c ++ [])).1 = true
        rw [List.append_nil]
        exact chk_ec N i c ht'
theorem chk_pt1 (p : PR) (h1 : tyOk p.1 = true) (h2 : utf p.2 = true) : (check (pt1 p)).1 = true := by
  unfold pt1
  refine chk_app (chk_asc _ (fun c hc => tb_low c (ty_tb p.1 h1 c hc))) (chk_app (a := [61]) (by decide) ?_)
  exact chk_esc _ _ _ (Nat.le_refl _) 0 h2
theorem chk_ptT : ∀ (l : List PR), (∀ p ∈ l, tyOk p.1 = true ∧ utf p.2 = true) → (check (ptT l)).1 = true
  | [], _ => rfl
  | p :: l, h => by
    show (check (43 :: pt1 p ++ ptT l)).1 = true
    obtain ⟨h1, h2⟩ := h p (List.mem_cons_self ..)
    exact chk_app (chk_app (a := [43]) (by decide) (chk_pt1 p h1 h2)) (chk_ptT l (fun q hq => h q (List.mem_cons_of_mem _ hq)))
theorem okP_all {l : List PR} (h : OkP l) : ∀ p ∈ l, tyOk p.1 = true ∧ utf p.2 = true := fun p hp => by
  obtain ⟨i, hi, rfl⟩ := List.getElem_of_mem hp
  obtain ⟨_, h1, _, h2⟩ := h.2.2 i hi
  exact ⟨h1, h2⟩
theorem chk_ptx (l : List PR) (h : OkP l) : (check (ptx l)).1 = true := by
  cases l with
  | nil => rfl
  | cons p l =>
    have ha := okP_all h
    obtain ⟨h1, h2⟩ := ha p (List.mem_cons_self ..)
    exact chk_app (chk_pt1 p h1 h2) (chk_ptT l (fun q hq => ha q (List.mem_cons_of_mem _ hq)))
/-- Parts with commas ahead; a name's text. -/
def dT (D : List (List PR)) : List UInt8 := D.flatMap fun r => 44 :: ptx r
def dX : List (List PR) → List UInt8
  | [] => []
  | r :: t => ptx r ++ dT t
theorem chk_dT : ∀ (D : List (List PR)), (∀ r ∈ D, OkP r) → (check (dT D)).1 = true
  | [], _ => rfl
  | r :: D, h => by
    show (check (44 :: ptx r ++ dT D)).1 = true
    exact chk_app (chk_app (a := [44]) (by decide) (chk_ptx r (h r (List.mem_cons_self ..)))) (chk_dT D (fun q hq => h q (List.mem_cons_of_mem _ hq)))
theorem utf_dX (D : List (List PR)) (h : OkD D) : utf (dX D) = true := by
  unfold utf
  cases D with
  | nil => rfl
  | cons r D => exact chk_app (chk_ptx r (h.2 r (List.mem_cons_self ..))) (chk_dT D (fun q hq => h.2 q (List.mem_cons_of_mem _ hq)))
theorem dT_form (D : List (List PR)) : dT D = [] ∨ ∃ t, dT D = 44 :: t := by
  cases D with
  | nil => exact Or.inl rfl
  | cons r D => exact Or.inr ⟨ptx r ++ dT D, by simp [dT]⟩
theorem nm_ok (hx : List UInt8 → Option VR) : ∀ (K : List (List PR)) (r : List PR) (n : Nat) (D0 : List (List PR)), OkD (D0 ++ r :: K) → K.length < n → nmP hx n D0 (ptx r ++ dT K) = some (.ok (D0 ++ r :: K)) := by
  intro K
  induction K with
  | nil =>
    intro r n D0 hok hn
    obtain ⟨m, rfl⟩ : ∃ m, n = m + 1 := ⟨n - 1, by omega⟩
    have hr := hok.2 r (by simp)
    have h64 : D0.length ≠ 64 := by have := hok.1; simp at this; omega
    obtain ⟨p, k, rfl⟩ : ∃ p k, r = p :: k := by
      cases r with
      | nil => have := hr.1; simp at this
      | cons p k => exact ⟨p, k, rfl⟩
    have hp := prt_ok hx D0.length h64 [] (Or.inl rfl) k p 9 [] hr (by have := hr.2.1; simp at this; omega)
    have hp' : prt hx 9 D0.length [] (ptx (p :: k) ++ dT []) = some (.ok (p :: k, [])) := by
      show prt hx 9 D0.length [] ((pt1 p ++ ptT k) ++ []) = _
      rw [List.append_assoc]
      exact hp
    unfold nmP
    rw [hp']
    rfl
  | cons q K ih =>
    intro r n D0 hok hn
    rw [List.length_cons] at hn
    obtain ⟨m, rfl⟩ : ∃ m, n = m + 1 := ⟨n - 1, by omega⟩
    have hr := hok.2 r (by simp)
    have h64 : D0.length ≠ 64 := by have := hok.1; simp at this; omega
    obtain ⟨p, k, rfl⟩ : ∃ p k, r = p :: k := by
      cases r with
      | nil => have := hr.1; simp at this
      | cons p k => exact ⟨p, k, rfl⟩
    have e : dT (q :: K) = 44 :: (ptx q ++ dT K) := by simp [dT]
    have hp := prt_ok hx D0.length h64 (dT (q :: K)) (Or.inr ⟨_, e⟩) k p 9 [] hr (by have := hr.2.1; simp at this; omega)
    have hrec := ih q m (D0 ++ [p :: k]) (by rw [List.append_assoc]; exact hok) (by omega)
    have hp' : prt hx 9 D0.length [] (ptx (p :: k) ++ dT (q :: K)) = some (.ok (p :: k, dT (q :: K))) := by
      show prt hx 9 D0.length [] ((pt1 p ++ ptT k) ++ dT (q :: K)) = _
      rw [List.append_assoc]
      exact hp
    unfold nmP
    rw [hp']
    dsimp only
    rw [if_pos (by rw [e]; rfl), e]
    show nmP hx m (D0 ++ [p :: k]) (ptx q ++ dT K) = _
    rw [hrec, List.append_assoc]
    rfl
theorem pt1_ne (p : PR) (X : List UInt8) : pt1 p ++ X ≠ [] := by
  unfold pt1
  simp
/-- What was printed is read back. -/
theorem prs_print (hx : List UInt8 → Option VR) (D : List (List PR)) (hD : OkD D) (hl : (dX D).length ≤ 4096) : prs hx (dX D) = some (.ok D) := by
  unfold prs
  rw [if_neg (by omega), if_neg (by rw [utf_dX D hD]; decide)]
  cases D with
  | nil => rfl
  | cons r K =>
    have hr := hD.2 r (by simp)
    obtain ⟨p, k, rfl⟩ : ∃ p k, r = p :: k := by
      cases r with
      | nil => have := hr.1; simp at this
      | cons p k => exact ⟨p, k, rfl⟩
    have hne : dX ((p :: k) :: K) ≠ [] := by
      show (pt1 p ++ ptT k) ++ dT K ≠ []
      rw [List.append_assoc]
      exact pt1_ne p _
    rw [if_neg hne]
    exact nm_ok hx K (p :: k) 65 [] hD (by have := hD.1; simp at this; omega)
end Pa
end Go.Proofs.YtkknenmpdimdbaaGreatDoor
