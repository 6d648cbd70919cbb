import Derived.Test.YtoomoicjoockjaaGreatDoorGDesc
namespace Go.Proofs.YtoomoicjoockjaaGreatDoor
set_option linter.unusedVariables false

/-- What may stand next: nine states and the end of all. -/
def dfa (q : Nat) (b : UInt8) : Nat :=
  match q with
  | 0 => if isL b then 1 else if b.toNat = 48 then 2 else if isD b then 3 else 9
  | 1 => if isK b then 1 else if b.toNat = 59 then 7 else 9
  | 2 => if b.toNat = 46 then 4 else 9
  | 3 => if isD b then 3 else if b.toNat = 46 then 4 else 9
  | 4 => if b.toNat = 48 then 5 else if isD b then 6 else 9
  | 5 => if b.toNat = 46 then 4 else if b.toNat = 59 then 7 else 9
  | 6 => if isD b then 6 else if b.toNat = 46 then 4 else if b.toNat = 59 then 7 else 9
  | 7 => if isK b then 8 else 9
  | 8 => if isK b then 8 else if b.toNat = 59 then 7 else 9
  | _ => 9
def drun (q : Nat) (l : List UInt8) : Nat := l.foldl dfa q
def dacc (q : Nat) : Bool := q == 1 || q == 5 || q == 6 || q == 8
def plc : Nat → List UInt8 → Nat
  | _, [] => 0
  | q, b :: l => if dfa q b = 9 then 0 else plc (dfa q b) l + 1
theorem dfa9 (b : UInt8) : dfa 9 b = 9 := rfl
theorem drun9 (l : List UInt8) : drun 9 l = 9 := by
  unfold drun
  induction l with
  | nil => rfl
  | cons a l ih => rw [List.foldl_cons, dfa9, ih]
theorem drun_cons (q : Nat) (b : UInt8) (l : List UInt8) : drun q (b :: l) = drun (dfa q b) l := rfl
theorem drun_app (q : Nat) (l k : List UInt8) : drun q (l ++ k) = drun (drun q l) k := by unfold drun; rw [List.foldl_append]
theorem plc_dead (q : Nat) (b : UInt8) (l : List UInt8) (h : dfa q b = 9) : plc q (b :: l) = 0 ∧ drun q (b :: l) = 9 := by
  constructor
  · unfold plc; rw [if_pos h]
  · rw [drun_cons, h, drun9]
theorem plc_live (q : Nat) (b : UInt8) (l : List UInt8) (h : dfa q b ≠ 9) : plc q (b :: l) = plc (dfa q b) l + 1 := by
  conv => lhs; unfold plc
  rw [if_neg h]
theorem plc_while (q : Nat) (p : UInt8 → Bool) (hq : q ≠ 9) (hp : ∀ b, p b = true → dfa q b = q) : ∀ l : List UInt8, plc q l = (l.takeWhile p).length + plc q (l.drop (l.takeWhile p).length) ∧ drun q l = drun q (l.drop (l.takeWhile p).length)
  | [] => ⟨rfl, rfl⟩
  | b :: l => by
    by_cases h : p b = true
    · have ih := plc_while q p hq hp l
      rw [List.takeWhile_cons, if_pos h, List.length_cons, List.drop_succ_cons, plc_live q b l (by rw [hp b h]; exact hq), drun_cons, hp b h]
      refine ⟨?_, ih.2⟩
      rw [ih.1]
      omega
    · rw [List.takeWhile_cons, if_neg h]
      exact ⟨by simp, by simp⟩
theorem head_while (p : UInt8 → Bool) (l : List UInt8) (b : UInt8) (k : List UInt8) (h : l.drop (l.takeWhile p).length = b :: k) : p b = false := by
  induction l with
  | nil => simp at h
  | cons a l ih =>
    by_cases ha : p a = true
    · rw [List.takeWhile_cons, if_pos ha, List.length_cons, List.drop_succ_cons] at h
      exact ih h
    · rw [List.takeWhile_cons, if_neg ha] at h
      simp at h
      rw [← h.1]
      simpa using ha
theorem isK59 : ∀ b : UInt8, b.toNat = 59 → isK b = false := by
  intro b h
  have : b = 59 := UInt8.toNat_inj.1 (by rw [h]; rfl)
  subst this
  decide
/-- A state in which nothing but ';' may come next. -/
def Shut (q : Nat) (r : List UInt8) : Prop := dacc q = true ∧ ∀ b k, r = b :: k → dfa q b = if b.toNat = 59 then 7 else 9
theorem shut8 (r : List UInt8) : Shut 8 (r.drop (r.takeWhile isK).length) := by
  refine ⟨rfl, fun b k h => ?_⟩
  have := head_while isK r b k h
  show (if isK b then 8 else if b.toNat = 59 then 7 else 9) = _
  rw [this]
  rfl
theorem dsc_dfa (s : ByteArray) : ∀ (n e : Nat) (acc : List (List UInt8)) (q : Nat), e ≤ s.size → s.size - e < n → Shut q (s.data.toList.drop e) →
    (dscE s n e acc).2.1 = e + plc q (s.data.toList.drop e) ∧ (dscE s n e acc).2.2 = dacc (drun q (s.data.toList.drop e))
  | 0, e, acc, q, he, hn, hq => by omega
  | n + 1, e, acc, q, he, hn, hq => by
    unfold dscE
    by_cases hlt : e < s.size
    · rw [if_pos hlt]
      have hl : e < s.data.toList.length := by rw [size_l]; exact hlt
      have hd := List.drop_eq_getElem_cons hl
      have hg : s.data.toList.getD e 0 = s.data.toList[e] := by rw [List.getD, List.getElem?_eq_getElem hl]; rfl
      have hf := hq.2 _ _ hd
      rw [hg]
      by_cases h59 : (s.data.toList[e]).toNat = 59
      · rw [if_pos h59]
        rw [if_pos h59] at hf
        rw [hd, plc_live _ _ _ (by rw [hf]; decide), drun_cons, hf]
        have hr : runE isK s.data.toList (e + 1) = e + 1 + ((s.data.toList.drop (e + 1)).takeWhile isK).length := rfl
        rw [hr]
        cases hk : (s.data.toList.drop (e + 1)) with
        | nil => rw [if_pos (by simp)]; exact ⟨rfl, rfl⟩
        | cons c k =>
          by_cases hc : isK c = true
          · have h8 : dfa 7 c = 8 := by show (if isK c then 8 else 9) = 8; rw [hc]; rfl
            rw [plc_live _ _ _ (by rw [h8]; decide), drun_cons, h8]
            have hw := plc_while 8 isK (by decide) (fun b hb => by show (if isK b then 8 else _) = 8; rw [hb]; rfl) k
            have hke : (k.drop (k.takeWhile isK).length) = s.data.toList.drop (e + 1 + ((c :: k).takeWhile isK).length) := by
              rw [← List.drop_drop, hk, List.takeWhile_cons, if_pos hc, List.length_cons, List.drop_succ_cons]
            have h8s := shut8 k
            rw [hke] at hw h8s
            have hlen : ((c :: k).takeWhile isK).length = (k.takeWhile isK).length + 1 := by rw [List.takeWhile_cons, if_pos hc, List.length_cons]
            have hkl : (k.takeWhile isK).length ≤ k.length := (List.takeWhile_prefix _).length_le
            have hsz : k.length + 1 = s.size - (e + 1) := by
              have := congrArg List.length hk
              rw [List.length_drop, size_l, List.length_cons] at this
              omega
            rw [if_neg (by omega), hw.1, hw.2]
            obtain ⟨i1, i2⟩ := dsc_dfa s n (e + 1 + ((c :: k).takeWhile isK).length) (acc ++ [(s.extract (e + 1) (e + 1 + ((c :: k).takeWhile isK).length)).data.toList]) 8 (by omega) (by omega) h8s
            refine ⟨?_, i2⟩
            rw [i1]
            omega
          · have h9 : dfa 7 c = 9 := by show (if isK c then 8 else 9) = 9; rw [if_neg hc]
            obtain ⟨d1, d2⟩ := plc_dead 7 c k h9
            rw [List.takeWhile_cons, if_neg hc, d1, d2, if_pos (by simp)]
            exact ⟨rfl, rfl⟩
      · rw [if_neg h59]
        rw [if_neg h59] at hf
        obtain ⟨d1, d2⟩ := plc_dead q _ (s.data.toList.drop (e + 1)) hf
        rw [hd, d1, d2]
        exact ⟨rfl, rfl⟩
    · rw [if_neg hlt, List.drop_of_length_le (by rw [size_l]; omega)]
      exact ⟨rfl, hq.1.symm⟩
theorem dig48 (b : UInt8) (h : b.toNat = 48) : isL b = false ∧ isD b = true := by
  have : b = 48 := UInt8.toNat_inj.1 (by rw [h]; rfl)
  subst this
  decide
theorem dig46 (b : UInt8) (h : b.toNat = 46) : isL b = false ∧ isD b = false := by
  have : b = 46 := UInt8.toNat_inj.1 (by rw [h]; rfl)
  subst this
  decide
/-- What a number's begin leads to. -/
theorem num_dfa (l : List UInt8) (e m : Nat) (he : e ≤ l.length) (hm : 1 ≤ m) (hL : m = 1 → ∀ b k, l.drop e = b :: k → isL b = false) :
    (numE l e = e ∧ plc (if m = 1 then 0 else 4) (l.drop e) = 0 ∧ dacc (drun (if m = 1 then 0 else 4) (l.drop e)) = false) ∨
    (e < numE l e ∧ numE l e ≤ l.length ∧ ∃ q, (m = 1 → q = 2 ∨ q = 3) ∧ (2 ≤ m → q = 5 ∨ q = 6) ∧ plc (if m = 1 then 0 else 4) (l.drop e) = (numE l e - e) + plc q (l.drop (numE l e)) ∧ drun (if m = 1 then 0 else 4) (l.drop e) = drun q (l.drop (numE l e)) ∧ ((q = 3 ∨ q = 6) → ∀ b k, l.drop (numE l e) = b :: k → isD b = false)) := by
  rcases Nat.lt_or_ge e l.length with hlt | hge
  · have hd := List.drop_eq_getElem_cons hlt
    have hg : l.getD e 0 = l[e] := by rw [List.getD, List.getElem?_eq_getElem hlt]; rfl
    have hL' : m = 1 → isL l[e] = false := fun h => hL h _ _ hd
    unfold numE
    rw [hg]
    by_cases h48 : (l[e]).toNat = 48
    · rw [if_pos ⟨h48, hlt⟩]
      obtain ⟨f1, f2⟩ := dig48 _ h48
      right
      refine ⟨by omega, by omega, if m = 1 then 2 else 5, fun h => Or.inl (if_pos h), fun h => Or.inl (if_neg (by omega)), ?_⟩
      have hs : dfa (if m = 1 then 0 else 4) l[e] = if m = 1 then 2 else 5 := by
        by_cases h1 : m = 1
        · rw [if_pos h1, if_pos h1]
          show (if isL l[e] then 1 else if (l[e]).toNat = 48 then 2 else _) = 2
          rw [f1, if_pos h48]; rfl
        · rw [if_neg h1, if_neg h1]
          show (if (l[e]).toNat = 48 then 5 else _) = 5
          rw [if_pos h48]
      rw [hd, plc_live _ _ _ (by rw [hs]; split <;> decide), drun_cons, hs]
      refine ⟨by omega, rfl, fun h => ?_⟩
      rcases h with h | h <;> split at h <;> omega
    · rw [if_neg (by rintro ⟨q, _⟩; exact h48 q)]
      unfold runE
      by_cases hD : isD l[e] = true
      · right
        have hs : dfa (if m = 1 then 0 else 4) l[e] = if m = 1 then 3 else 6 := by
          by_cases h1 : m = 1
          · rw [if_pos h1, if_pos h1]
            show (if isL l[e] then 1 else if (l[e]).toNat = 48 then 2 else if isD l[e] then 3 else 9) = 3
            rw [hL' h1, if_neg h48, hD]; rfl
          · rw [if_neg h1, if_neg h1]
            show (if (l[e]).toNat = 48 then 5 else if isD l[e] then 6 else 9) = 6
            rw [if_neg h48, hD]; rfl
        have hw := plc_while (if m = 1 then 3 else 6) isD (by split <;> decide) (fun b hb => by
          by_cases h1 : m = 1
          · rw [if_pos h1]; show (if isD b then 3 else _) = 3; rw [hb]; rfl
          · rw [if_neg h1]; show (if isD b then 6 else _) = 6; rw [hb]; rfl) (l.drop (e + 1))
        have ht : ((l.drop e).takeWhile isD).length = ((l.drop (e + 1)).takeWhile isD).length + 1 := by rw [hd, List.takeWhile_cons, if_pos hD, List.length_cons]
        have hb := (List.takeWhile_prefix (p := isD) (l := l.drop (e + 1))).length_le
        rw [List.length_drop] at hb
        have hdr : (l.drop (e + 1)).drop ((l.drop (e + 1)).takeWhile isD).length = l.drop (e + ((l.drop e).takeWhile isD).length) := by
          rw [List.drop_drop, ht]
          congr 1
          omega
        have hh := head_while isD (l.drop (e + 1))
        rw [hdr] at hw hh
        refine ⟨by omega, by omega, if m = 1 then 3 else 6, fun h => Or.inr (if_pos h), fun h => Or.inr (if_neg (by omega)), ?_, ?_, fun _ b k q => hh b k q⟩
        · conv => lhs; rw [hd]
          rw [plc_live _ _ _ (by rw [hs]; split <;> decide), hs, hw.1]
          omega
        · conv => lhs; rw [hd]
          rw [drun_cons, hs, hw.2]
      · left
        have h9 : dfa (if m = 1 then 0 else 4) l[e] = 9 := by
          by_cases h1 : m = 1
          · rw [if_pos h1]
            show (if isL l[e] then 1 else if (l[e]).toNat = 48 then 2 else if isD l[e] then 3 else 9) = 9
            rw [hL' h1, if_neg h48, if_neg hD]; rfl
          · rw [if_neg h1]
            show (if (l[e]).toNat = 48 then 5 else if isD l[e] then 6 else 9) = 9
            rw [if_neg h48, if_neg hD]
        obtain ⟨d1, d2⟩ := plc_dead _ _ (l.drop (e + 1)) h9
        rw [hd, List.takeWhile_cons, if_neg hD, d1, d2]
        exact ⟨rfl, rfl, rfl⟩
  · left
    rw [List.drop_of_length_le hge]
    refine ⟨?_, rfl, ?_⟩
    · unfold numE runE
      rw [if_neg (by omega), List.drop_of_length_le hge]
      rfl
    · show dacc (if m = 1 then 0 else 4) = false
      split <;> rfl
theorem id_dfa (l : List UInt8) : ∀ (n m e : Nat), e ≤ l.length → l.length - e < n → 1 ≤ m → (m = 1 → ∀ b k, l.drop e = b :: k → isL b = false) →
    (((idE l n m e).2 = false ∧ (idE l n m e).1 = e + plc (if m = 1 then 0 else 4) (l.drop e) ∧ dacc (drun (if m = 1 then 0 else 4) (l.drop e)) = false) ∨
     ((idE l n m e).2 = true ∧ e ≤ (idE l n m e).1 ∧ (idE l n m e).1 ≤ l.length ∧ ∃ q, Shut q (l.drop (idE l n m e).1) ∧ plc (if m = 1 then 0 else 4) (l.drop e) = ((idE l n m e).1 - e) + plc q (l.drop (idE l n m e).1) ∧ drun (if m = 1 then 0 else 4) (l.drop e) = drun q (l.drop (idE l n m e).1)))
  | 0, m, e, he, hn, hm, hL => by omega
  | n + 1, m, e, he, hn, hm, hL => by
    unfold idE
    rcases num_dfa l e m he hm hL with ⟨h1, h2, h3⟩ | ⟨h1, hle, q, q1, q2, h2, h3, h4⟩
    · rw [if_pos h1]
      left
      exact ⟨rfl, by rw [h2]; rfl, h3⟩
    · rw [if_neg (by omega)]
      generalize numE l e = t at *
      by_cases hx : t = l.length ∨ ¬ (l.getD t 0).toNat = 46
      · rw [if_pos hx]
        have hno : ∀ b k, l.drop t = b :: k → b.toNat ≠ 46 := by
          intro b k hk
          have hlt : t < l.length := by
            rcases Nat.lt_or_ge t l.length with h | h
            · exact h
            · rw [List.drop_of_length_le h] at hk; cases hk
          rw [List.drop_eq_getElem_cons hlt] at hk
          injection hk with hk _
          rcases hx with hx | hx
          · omega
          · rw [List.getD, List.getElem?_eq_getElem hlt, Option.getD_some, hk] at hx
            exact hx
        by_cases hm1 : m = 1
        · left
          rw [if_pos hm1] at *
          refine ⟨by subst hm1; rfl, ?_⟩
          rw [h3, h2]
          have hz : plc q (l.drop t) = 0 ∧ dacc (drun q (l.drop t)) = false := by
            cases hk : l.drop t with
            | nil => rcases q1 hm1 with rfl | rfl <;> exact ⟨rfl, rfl⟩
            | cons b k =>
              have h46 := hno b k hk
              have h9 : dfa q b = 9 := by
                rcases q1 hm1 with rfl | rfl
                · show (if b.toNat = 46 then 4 else 9) = 9; rw [if_neg h46]
                · show (if isD b then 3 else if b.toNat = 46 then 4 else 9) = 9
                  rw [h4 (Or.inl rfl) b k hk, if_neg h46]; rfl
              obtain ⟨d1, d2⟩ := plc_dead q b k h9
              rw [d1, d2]
              exact ⟨rfl, rfl⟩
          rw [hz.1]
          exact ⟨by show t = _; omega, hz.2⟩
        · right
          refine ⟨decide_eq_true (by omega), by show e ≤ t; omega, hle, q, ⟨?_, ?_⟩, h2, h3⟩
          · rcases q2 (by omega) with rfl | rfl <;> rfl
          · intro b k hk
            have h46 := hno b k hk
            rcases q2 (by omega) with rfl | rfl
            · show (if b.toNat = 46 then 4 else if b.toNat = 59 then 7 else 9) = _
              rw [if_neg h46]
            · show (if isD b then 6 else if b.toNat = 46 then 4 else if b.toNat = 59 then 7 else 9) = _
              rw [h4 (Or.inr rfl) b k hk, if_neg h46]; rfl
      · rw [if_neg hx]
        have hlt : t < l.length := by omega
        have h46 : (l[t]).toNat = 46 := by
          have := Decidable.not_not.1 (fun h => hx (Or.inr h))
          rw [List.getD, List.getElem?_eq_getElem hlt, Option.getD_some] at this
          exact this
        have hd := List.drop_eq_getElem_cons hlt
        have hs : dfa q l[t] = 4 := by
          obtain ⟨_, fD⟩ := dig46 _ h46
          rcases Nat.lt_or_ge m 2 with h | h
          · rcases q1 (by omega) with rfl | rfl
            · show (if (l[t]).toNat = 46 then 4 else 9) = 4; rw [if_pos h46]
            · show (if isD l[t] then 3 else if (l[t]).toNat = 46 then 4 else 9) = 4; rw [fD, if_pos h46]; rfl
          · rcases q2 h with rfl | rfl
            · show (if (l[t]).toNat = 46 then 4 else _) = 4; rw [if_pos h46]
            · show (if isD l[t] then 6 else if (l[t]).toNat = 46 then 4 else _) = 4; rw [fD, if_pos h46]; rfl
        rw [hd, plc_live _ _ _ (by rw [hs]; decide), hs] at h2
        rw [hd, drun_cons, hs] at h3
        have ih := id_dfa l n (m + 1) (t + 1) (by omega) (by omega) (by omega) (fun h => by omega)
        rw [if_neg (by omega : ¬ m + 1 = 1)] at ih
        rcases ih with ⟨i1, i2, i3⟩ | ⟨i1, i2, i3, q', i4, i5, i6⟩
        · left
          refine ⟨i1, ?_, by rw [h3]; exact i3⟩
          rw [i2, h2]
          omega
        · right
          refine ⟨i1, by omega, i3, q', i4, ?_, by rw [h3, i6]⟩
          rw [h2, i5]
          omega
/-- A description's place and whether it is whole, by the states. -/
theorem desc_dfa (f : ByteArray) : (desc f).2.1 = plc 0 f.data.toList ∧ (desc f).2.2 = dacc (drun 0 f.data.toList) := by
  unfold desc typE
  by_cases hl : ¬ f.data.toList = [] ∧ isL (f.data.toList.getD 0 0) = true
  · rw [if_pos hl, if_pos rfl]
    cases hk : f.data.toList with
    | nil => exact absurd hk hl.1
    | cons b k =>
      have hb : isL b = true := by have := hl.2; rw [hk] at this; exact this
      have h1 : dfa 0 b = 1 := by show (if isL b then 1 else _) = 1; rw [hb]; rfl
      have hw := plc_while 1 isK (by decide) (fun b hb => by show (if isK b then 1 else _) = 1; rw [hb]; rfl) k
      have hr : runE isK (b :: k) 1 = 1 + (k.takeWhile isK).length := rfl
      have hdr : k.drop (k.takeWhile isK).length = f.data.toList.drop (1 + (k.takeWhile isK).length) := by rw [hk, Nat.add_comm, List.drop_succ_cons]
      have hsh : Shut 1 (f.data.toList.drop (1 + (k.takeWhile isK).length)) := by
        rw [← hdr]
        refine ⟨rfl, fun c r h => ?_⟩
        have := head_while isK k c r h
        show (if isK c then 1 else if c.toNat = 59 then 7 else 9) = _
        rw [this]; rfl
      have hkl : (k.takeWhile isK).length ≤ k.length := (List.takeWhile_prefix _).length_le
      have hsz : k.length + 1 = f.size := by rw [← size_l, hk, List.length_cons]
      rw [plc_live _ _ _ (by rw [h1]; decide), drun_cons, h1, hw.1, hw.2, hdr, hr]
      obtain ⟨d1, d2⟩ := dsc_dfa f (f.size + 1) (1 + (k.takeWhile isK).length) [] 1 (by omega) (by omega) hsh
      refine ⟨?_, d2⟩
      rw [d1]
      omega
  · rw [if_neg hl]
    have hL : (1 = 1 → ∀ b k, f.data.toList.drop 0 = b :: k → isL b = false) := by
      intro _ b k h
      rw [List.drop_zero] at h
      cases hb : isL b with
      | false => rfl
      | true => exact absurd ⟨by rw [h]; simp, by rw [h]; exact hb⟩ hl
    have h := id_dfa f.data.toList (f.data.toList.length + 1) 1 0 (by omega) (by omega) (by omega) hL
    rw [if_pos rfl, List.drop_zero] at h
    rcases h with ⟨i1, i2, i3⟩ | ⟨i1, i2, i3, q, i4, i5, i6⟩
    · rw [if_neg (by rw [i1]; decide)]
      exact ⟨by show (idE _ _ _ _).1 = _; rw [i2]; omega, i3.symm⟩
    · rw [if_pos i1, i5, i6]
      rw [size_l] at i3
      obtain ⟨d1, d2⟩ := dsc_dfa f (f.size + 1) (idE f.data.toList (f.data.toList.length + 1) 1 0).1 [] q i3 (by omega) i4
      refine ⟨?_, d2⟩
      rw [d1]
      omega
theorem dfa_le (q : Nat) (b : UInt8) : dfa q b ≤ 9 := by
  unfold dfa
  split <;> (repeat' split) <;> omega
theorem drun_le : ∀ (l : List UInt8) (q : Nat), q ≤ 9 → drun q l ≤ 9
  | [], q, h => h
  | b :: l, q, h => drun_le l _ (dfa_le q b)
theorem plc_le : ∀ (l : List UInt8) (q : Nat), plc q l ≤ l.length
  | [], q => Nat.le_refl _
  | b :: l, q => by
    unfold plc
    split
    · omega
    · have := plc_le l (dfa q b)
      rw [List.length_cons]
      omega
/-- Ahead of the place it goes on; with the byte at it, it doesn't. -/
theorem plc_ahead : ∀ (l : List UInt8) (q : Nat), q ≠ 9 → drun q (l.take (plc q l)) ≠ 9
  | [], q, h => h
  | b :: l, q, h => by
    by_cases h9 : dfa q b = 9
    · rw [(plc_dead q b l h9).1]; exact h
    · rw [plc_live q b l h9, List.take_succ_cons, drun_cons]
      exact plc_ahead l _ h9
theorem plc_with : ∀ (l : List UInt8) (q : Nat), plc q l < l.length → drun q (l.take (plc q l + 1)) = 9
  | [], q, h => by simp at h
  | b :: l, q, h => by
    by_cases h9 : dfa q b = 9
    · rw [(plc_dead q b l h9).1, List.take_succ_cons, List.take_zero, drun_cons, h9]; rfl
    · rw [plc_live q b l h9] at h ⊢
      rw [List.take_succ_cons, drun_cons]
      refine plc_with l _ ?_
      rw [List.length_cons] at h
      omega
theorem plc_end (l : List UInt8) (q : Nat) (h : dacc (drun q l) = true) : plc q l = l.length := by
  rcases Nat.lt_or_ge (plc q l) l.length with hlt | hge
  · have h1 := plc_with l q hlt
    have h2 : drun q l = 9 := by
      conv => lhs; rw [← List.take_append_drop (plc q l + 1) l]
      rw [drun_app, h1, drun9]
    rw [h2] at h
    cases h
  · exact Nat.le_antisymm (plc_le l q) hge
/-- One of four ends makes a live text whole, and no other. -/
def goesL (t : List UInt8) : Bool := dacc (drun 0 t) || dacc (drun 0 (t ++ [97])) || dacc (drun 0 (t ++ [49])) || dacc (drun 0 (t ++ [46, 49]))
theorem goes_iff (t : List UInt8) : goesL t = decide (drun 0 t ≠ 9) := by
  unfold goesL
  rw [drun_app, drun_app, drun_app]
  have h := drun_le t 0 (by omega)
  generalize drun 0 t = q at *
  have : ∀ q : Fin 10, (dacc q.val || dacc (drun q.val [97]) || dacc (drun q.val [49]) || dacc (drun q.val [46, 49])) = decide (q.val ≠ 9) := by decide
  exact this ⟨q, by omega⟩
end Go.Proofs.YtoomoicjoockjaaGreatDoor
