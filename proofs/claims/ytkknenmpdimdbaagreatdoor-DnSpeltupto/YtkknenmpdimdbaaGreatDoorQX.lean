import Derived.Test.YtkknenmpdimdbaaGreatDoorQT
import Derived.Test.YtkknenmpdimdbaaGreatDoorQU
namespace Go.Proofs.YtkknenmpdimdbaaGreatDoor
namespace Pa
open TextMath (fold lo normal check wo unhex seqLen check_good check_bad check_ind check_app_good seqLen_le)
open Ke (tyOk tyC tyR utf PR mst ec escF escV OkP OkI OkD)
open BerMath (El TR Hd wAt hAt one)
set_option linter.unusedVariables false
set_option linter.unusedSimpArgs false

/-- A byte in two hex digits. -/
def Hx2 (c x y : UInt8) : Prop := wo x = some (c.toNat / 16) ∧ wo y = some (c.toNat % 16)
theorem Hx2.hd {c x y : UInt8} (h : Hx2 c x y) : hd x = true ∧ hd y = true := by
  unfold Pa.hd
  rw [h.1, h.2]
  exact ⟨rfl, rfl⟩
theorem Hx2.hb {c x y : UInt8} (h : Hx2 c x y) : hb x y = c := by
  unfold Pa.hb
  rw [h.1, h.2]
  simp only [Option.getD_some]
  rw [show 16 * (c.toNat / 16) + c.toNat % 16 = c.toNat from by omega, UInt8.ofNat_toNat]
theorem wo_low (x : UInt8) (h : hd x = true) : x.toNat < 128 ∧ es x = false ∧ x ≠ 32 ∧ x ≠ 44 ∧ x ≠ 43 := by
  have key : ∀ n : Fin 256, hd (UInt8.ofNat n.val) = true → (UInt8.ofNat n.val).toNat < 128 ∧ es (UInt8.ofNat n.val) = false ∧ UInt8.ofNat n.val ≠ 32 ∧ UInt8.ofNat n.val ≠ 44 ∧ UInt8.ofNat n.val ≠ 43 := by decide +kernel
  have h2 := key ⟨x.toNat, x.toNat_lt⟩
  rw [UInt8.ofNat_toNat] at h2
  exact h2 h
theorem es_low (x : UInt8) (h : es x = true) : x.toNat < 128 := by
  have key : ∀ n : Fin 256, es (UInt8.ofNat n.val) = true → (UInt8.ofNat n.val).toNat < 128 := by decide +kernel
  have h2 := key ⟨x.toNat, x.toNat_lt⟩
  rw [UInt8.ofNat_toNat] at h2
  exact h2 h
/-- A spelling of one byte of a value of N bytes, at the place i. -/
def SpB (k N i : Nat) (c : UInt8) (t : List UInt8) : Prop :=
  (t = [c] ∧ c ≠ 0 ∧ mst N i c = false ∧ (128 ≤ c.toNat → k ≠ 1)) ∨ (t = [92, c] ∧ es c = true) ∨ (∃ x y, t = [92, x, y] ∧ Hx2 c x y ∧ (128 ≤ c.toNat → k = 1))
/-- Spellings, byte by byte. -/
def SpL (k N : Nat) : Nat → List UInt8 → List (List UInt8) → Prop
  | _, [], [] => True
  | i, c :: v, t :: ts => SpB k N i c t ∧ SpL k N (i + 1) v ts
  | _, [], _ :: _ => False
  | _, _ :: _, [] => False
theorem SpL.snoc {k N : Nat} : ∀ {v : List UInt8} {i : Nat} {ts : List (List UInt8)} {c : UInt8} {t : List UInt8}, SpL k N i v ts → SpB k N (i + v.length) c t → SpL k N i (v ++ [c]) (ts ++ [t])
  | [], i, [], c, t, _, h => ⟨h, trivial⟩
  | [], i, _ :: _, c, t, h, _ => h.elim
  | _ :: _, i, [], c, t, h, _ => h.elim
  | d :: v, i, s :: ts, c, t, h, h2 => ⟨h.1, SpL.snoc h.2 (by rw [List.length_cons, show i + (v.length + 1) = i + 1 + v.length from by omega] at h2; exact h2)⟩
theorem SpL.len {k N : Nat} : ∀ {v : List UInt8} {i : Nat} {ts : List (List UInt8)}, SpL k N i v ts → ts.length = v.length
  | [], i, [], _ => rfl
  | [], i, _ :: _, h => h.elim
  | _ :: _, i, [], h => h.elim
  | d :: v, i, s :: ts, h => by rw [List.length_cons, List.length_cons, SpL.len h.2]
theorem SpB.len {k N i : Nat} {c : UInt8} {t : List UInt8} (h : SpB k N i c t) : 1 ≤ t.length ∧ t.length ≤ 3 := by
  rcases h with ⟨rfl, _⟩ | ⟨rfl, _⟩ | ⟨x, y, rfl, _⟩ <;> simp
theorem SpL.flat {k N : Nat} : ∀ {v : List UInt8} {i : Nat} {ts : List (List UInt8)}, SpL k N i v ts → v.length ≤ ts.flatten.length
  | [], i, [], _ => Nat.le_refl _
  | [], i, _ :: _, h => h.elim
  | _ :: _, i, [], h => h.elim
  | d :: v, i, s :: ts, h => by
    have h1 := h.1.len.1
    have h2 := SpL.flat h.2
    rw [List.length_cons, List.flatten_cons, List.length_append]
    omega
/-- A spelt byte is read back. -/
theorem tv_spB {k n N i : Nat} {b : UInt8} {t X a : List UInt8} {c : Nat} (h : SpB k N i b t) (hN : i < N) : ∃ c', tv (n + 1) (t ++ X) a c = tv n X (a ++ [b]) c' ∧ (i + 1 = N → c' = a.length + 1) ∧ (c ≤ a.length → c' ≤ a.length + 1) := by
  rcases h with ⟨rfl, h0, hm, _⟩ | ⟨rfl, he⟩ | ⟨x, y, rfl, hxy, _⟩
  · obtain ⟨m1, m2, m3, m4, m5, m6⟩ := not_mst hm
    have hbar : bar b = false := m4.resolve_left h0
    by_cases h32 : b = 32
    · refine ⟨c, ?_, fun e => absurd e (m5 h32).2, fun h => by omega⟩
      rw [tv_step]
      have hk : kO ([b] ++ X) = 6 := by
        show kO (b :: X) = 6
        unfold kO
        simp [m1, m2, m3, hbar, h32]
        subst h32
        simp [hbar]
      rw [hk]
      rfl
    · refine ⟨a.length + 1, ?_, fun _ => rfl, fun _ => Nat.le_refl _⟩
      rw [tv_step]
      have hk : kO ([b] ++ X) = 5 := by
        show kO (b :: X) = 5
        unfold kO
        simp [m1, m2, m3, hbar, h32]
      rw [hk]
      rfl
  · refine ⟨a.length + 1, ?_, fun _ => rfl, fun _ => Nat.le_refl _⟩
    rw [tv_step]
    have hk : kO ([92, b] ++ X) = 4 := by
      show kO (92 :: b :: X) = 4
      unfold kO kB
      simp [he]
    rw [hk]
    rfl
  · refine ⟨a.length + 1, ?_, fun _ => rfl, fun _ => Nat.le_refl _⟩
    rw [tv_step]
    have hk : kO ([92, x, y] ++ X) = 3 := by
      show kO (92 :: x :: y :: X) = 3
      unfold kO kB
      have e1 := (wo_low x hxy.hd.1).2.1
      simp [e1, hxy.hd.1, hxy.hd.2]
    rw [hk]
    simp only [if_neg (by decide : ¬ (3 : Nat) = 0), if_neg (by decide : ¬ (3 : Nat) = 1), if_neg (by decide : ¬ (3 : Nat) = 2), if_pos]
    show tv n X (a ++ [hb x y]) (a.length + 1) = _
    rw [hxy.hb]
theorem tv_spaces (r : List UInt8) (hr : En r) : ∀ (m n : Nat) (a : List UInt8) (c : Nat), m < n → c ≤ a.length → tv n (List.replicate m 32 ++ r) a c = .ok (a.take c, r)
  | 0, n, a, c, hn, hc => by
    obtain ⟨n, rfl⟩ : ∃ j, n = j + 1 := ⟨n - 1, by omega⟩
    show tv (n + 1) ([] ++ r) a c = _
    rw [List.nil_append, tv_step, hr.kO, if_pos rfl]
  | m + 1, n, a, c, hn, hc => by
    obtain ⟨n, rfl⟩ : ∃ j, n = j + 1 := ⟨n - 1, by omega⟩
    rw [tv_step]
    have hk : kO (List.replicate (m + 1) 32 ++ r) = 6 := by
      show kO (32 :: (List.replicate m 32 ++ r)) = 6
      unfold kO
      simp [bar]
    rw [hk]
    show tv n (List.replicate m 32 ++ r) (a ++ [32]) c = _
    rw [tv_spaces r hr m n (a ++ [32]) c (by omega) (by rw [List.length_append, List.length_singleton]; omega), List.take_append_of_le_length hc]
theorem tv_spell (k N m : Nat) (r : List UInt8) (hr : En r) : ∀ (l : List UInt8) (ts : List (List UInt8)) (n i : Nat) (a : List UInt8) (c : Nat), SpL k N i l ts → N = i + l.length → l.length + m < n → a.length = i → (l = [] → c = a.length) → c ≤ a.length → tv n (ts.flatten ++ (List.replicate m 32 ++ r)) a c = .ok (a ++ l, r)
  | [], [], n, i, a, c, _, hN, hn, ha, hc, hca => by
    show tv n ([] ++ (List.replicate m 32 ++ r)) a c = _
    rw [List.nil_append, tv_spaces r hr m n a c (by simpa using hn) hca, hc rfl, List.take_length, List.append_nil]
  | [], _ :: _, n, i, a, c, h, _, _, _, _, _ => h.elim
  | _ :: _, [], n, i, a, c, h, _, _, _, _, _ => h.elim
  | b :: l, t :: ts, n, i, a, c, h, hN, hn, ha, hc, hca => by
    rw [List.length_cons] at hN hn
    obtain ⟨n, rfl⟩ : ∃ j, n = j + 1 := ⟨n - 1, by omega⟩
    obtain ⟨c', e, hc', hle⟩ := tv_spB (n := n) (X := ts.flatten ++ (List.replicate m 32 ++ r)) (a := a) (c := c) h.1 (by omega)
    rw [List.flatten_cons, List.append_assoc, e, tv_spell k N m r hr l ts n (i + 1) (a ++ [b]) c' h.2 (by omega) (by omega) (by simp [ha]) (fun hl => by
      subst hl
      rw [List.length_append]
      exact hc' (by simp at hN; omega)) (by rw [List.length_append, List.length_singleton]; exact hle hca)]
    simp
/-- Bytes in pairs of hex digits. -/
def HxL : List UInt8 → List UInt8 → Prop
  | [], [] => True
  | c :: bs, x :: y :: ds => Hx2 c x y ∧ HxL bs ds
  | [], _ :: _ => False
  | _ :: _, [] => False
  | _ :: _, [_] => False
theorem HxL.snoc : ∀ {bs ds : List UInt8} {c x y : UInt8}, HxL bs ds → Hx2 c x y → HxL (bs ++ [c]) (ds ++ [x, y])
  | [], [], c, x, y, _, h => ⟨h, trivial⟩
  | [], _ :: _, c, x, y, h, _ => h.elim
  | _ :: _, [], c, x, y, h, _ => h.elim
  | _ :: _, [_], c, x, y, h, _ => h.elim
  | d :: bs, a :: b :: ds, c, x, y, h, h2 => ⟨h.1, HxL.snoc h.2 h2⟩
theorem HxL.hd : ∀ {bs ds : List UInt8}, HxL bs ds → ∀ x ∈ ds, Pa.hd x = true
  | [], [], _ => fun x hx => by cases hx
  | [], _ :: _, h => h.elim
  | _ :: _, [], h => h.elim
  | _ :: _, [_], h => h.elim
  | d :: bs, a :: b :: ds, h => fun x hx => by
    rcases List.mem_cons.1 hx with rfl | hx
    · exact h.1.hd.1
    · rcases List.mem_cons.1 hx with rfl | hx
      · exact h.1.hd.2
      · exact HxL.hd h.2 x hx
theorem HxL.len : ∀ {bs ds : List UInt8}, HxL bs ds → ds.length = 2 * bs.length
  | [], [], _ => rfl
  | [], _ :: _, h => h.elim
  | _ :: _, [], h => h.elim
  | _ :: _, [_], h => h.elim
  | d :: bs, a :: b :: ds, h => by have := HxL.len h.2; simp only [List.length_cons]; omega
theorem HxL.unhex : ∀ {bs ds : List UInt8}, HxL bs ds → ∀ k, unhex ds k = .ok bs
  | [], [], _, k => rfl
  | [], _ :: _, h, _ => h.elim
  | _ :: _, [], h, _ => h.elim
  | _ :: _, [_], h, _ => h.elim
  | c :: bs, a :: b :: ds, h, k => by
    rw [TextMath.unhex_pair _ _ _ _ _ _ h.1.1 h.1.2, HxL.unhex h.2 (k + 2), show 16 * (c.toNat / 16) + c.toNat % 16 = c.toNat from by omega, UInt8.ofNat_toNat]
    rfl
/-- A spelling of a value: byte by byte, or as an element behind a #. -/
def SpV (v t : List UInt8) : Prop :=
  (∃ k ts, SpL k v.length 0 v ts ∧ t = ts.flatten) ∨ (v.length < 128 ∧ ∃ g ds, (g = 4 ∨ g = 12 ∨ g = 19 ∨ g = 22) ∧ HxL (g :: UInt8.ofNat v.length :: v) ds ∧ t = 35 :: ds)
/-- The tree of an element whose content is a text. -/
theorem tree_text (g : UInt8) (v : List UInt8) (hg : g = 4 ∨ g = 12 ∨ g = 19 ∨ g = 22) (hv : v.length < 128) :
    treeR (S (g :: UInt8.ofNat v.length :: v)) = .ok [(0, ⟨0, false, g.toNat, v.length, 2⟩, 1)] := by
  obtain ⟨l, hl⟩ : ∃ l, g :: UInt8.ofNat v.length :: v = l := ⟨_, rfl⟩
  have hll : l.length = v.length + 2 := by rw [← hl]; simp
  have h0 : l.getD 0 0 = g := by rw [← hl]; rfl
  have h1 : (l.getD 1 0).toNat = v.length := by
    rw [← hl]
    show (UInt8.ofNat v.length).toNat = _
    rw [UInt8.toNat_ofNat']
    omega
  have hgn : g.toNat = 4 ∨ g.toNat = 12 ∨ g.toNat = 19 ∨ g.toNat = 22 := by rcases hg with rfl | rfl | rfl | rfl <;> simp
  rw [hl]
  have hw : wAt l 0 l.length = .ok ⟨0, false, g.toNat, v.length, 2⟩ := by
    unfold wAt
    have hh : hAt l 0 l.length = .ok ⟨0, false, g.toNat, v.length, 2⟩ := by
      unfold hAt
      rw [if_neg (by omega), h0, if_neg (by omega), if_neg (by omega), Nat.zero_add, if_neg (by omega), if_neg (by omega), if_pos (by omega), h1]
      have e1 : g.toNat / 64 = 0 := by omega
      have e2 : g.toNat / 32 % 2 = 0 := by omega
      have e3 : g.toNat % 32 = g.toNat := by omega
      rw [e1, e2, e3]
      rfl
    rw [hh]
    dsimp only
    rw [if_neg (by omega)]
  have ht : tr (S l) = ([(0, ⟨0, false, g.toNat, v.length, 2⟩, 1)], none) := by
    unfold tr
    rw [S_l, S_size]
    exact BerMath.one_leaf _ _ _ _ _ _ _ (by decide) hw (by simp)
  unfold treeR
  rw [ht]
  dsimp only
  rw [if_neg]
  rw [S_size]
  show ¬ (0 + 2 + v.length < l.length)
  omega
theorem txE_text (g : UInt8) (v ds : List UInt8) (hg : g = 4 ∨ g = 12 ∨ g = 19 ∨ g = 22) (hv : v.length < 128) (h : HxL (g :: UInt8.ofNat v.length :: v) ds) : txE ds = some v := by
  unfold txE
  rw [h.unhex 0]
  dsimp only
  rw [tree_text g v hg hv]
  dsimp only
  unfold one1
  dsimp only
  rw [if_pos]
  · congr 1
    rw [S]
    simp
  · unfold txB
    dsimp only
    rcases hg with rfl | rfl | rfl | rfl <;> rfl
theorem rep_hd (m : Nat) (r : List UInt8) (hr : En r) : ∀ c, (List.replicate m 32 ++ r).head? = some c → hd c = false := by
  intro c h
  cases m with
  | zero =>
    rw [List.replicate_zero, List.nil_append] at h
    rcases hr with rfl | ⟨c', t, rfl, h2⟩
    · cases h
    · injection h with h
      subst h
      rcases h2 with rfl | rfl <;> decide
  | succ m =>
    injection h with h
    subst h
    decide
theorem sp_rep (m : Nat) (r : List UInt8) (h : r.head? ≠ some 32) : sp (List.replicate m 32 ++ r) = r := by
  induction m with
  | zero => rw [List.replicate_zero, List.nil_append]; exact sp_id h
  | succ m ih =>
    unfold sp at *
    rw [List.replicate_succ, List.cons_append, List.dropWhile_cons]
    simpa using ih
theorem En.ne {r : List UInt8} (h : En r) : r.head? ≠ some 32 := by
  rcases h with rfl | ⟨c, t, rfl, h2⟩
  · simp
  · rcases h2 with rfl | rfl <;> simp
/-- A spelt value is read back, up to the spaces behind it. -/
theorem pv_spell (v t r : List UInt8) (m : Nat) (hr : En r) (hu : utf v = true) (h : SpV v t) : t.head? ≠ some 32 ∧ (t = [] ∨ pv hxO (t ++ (List.replicate m 32 ++ r)) = some (.ok (v, r))) ∧ (t = [] → v = []) := by
  rcases h with ⟨k, ts, hs, rfl⟩ | ⟨hv, g, ds, hg, hd', rfl⟩
  · cases v with
    | nil =>
      cases ts with
      | nil => exact ⟨by simp, Or.inl rfl, fun _ => rfl⟩
      | cons _ _ => exact hs.elim
    | cons b v =>
      cases ts with
      | nil => exact hs.elim
      | cons t ts =>
        have hh : ∃ x y, t = x :: y ∧ x ≠ 32 ∧ x ≠ 35 := by
          rcases hs.1 with ⟨rfl, h0, hm, _⟩ | ⟨rfl, _⟩ | ⟨x, y, rfl, _⟩
          · obtain ⟨_, _, _, _, m5, m6⟩ := not_mst hm
            exact ⟨b, [], rfl, fun e => (m5 e).1 rfl, fun e => m6 e rfl⟩
          · exact ⟨92, _, rfl, by decide, by decide⟩
          · exact ⟨92, _, rfl, by decide, by decide⟩
        obtain ⟨x, y, rfl, hx, hx2⟩ := hh
        refine ⟨by simp [hx], Or.inr ?_, fun e => by simp at e⟩
        unfold pv
        rw [if_neg (by simp [hx2])]
        have := tv_spell k (b :: v).length m r hr (b :: v) ((x :: y) :: ts) ((((x :: y) :: ts).flatten ++ (List.replicate m 32 ++ r)).length + 1) 0 [] 0 hs (by omega) (by
          have hl : (b :: v).length ≤ (((x :: y) :: ts).flatten).length := by
            exact hs.flat
          simp only [List.length_append, List.length_replicate]
          omega) rfl (fun _ => rfl) (Nat.zero_le _)
        rw [this]
        simp [hu]
  · refine ⟨by simp, Or.inr ?_, fun e => by cases e⟩
    unfold pv
    rw [if_pos (by simp)]
    have htw := tw_all hd ds (List.replicate m 32 ++ r) hd'.hd (rep_hd m r hr)
    show (hxO (ds ++ (List.replicate m 32 ++ r))).map _ = _
    unfold hxO hxR
    rw [htw.1, htw.2, txE_text g v ds hg hv hd']
    dsimp only
    rw [sp_rep m r hr.ne, if_pos hr.kO]
    simp [hu]
end Pa
end Go.Proofs.YtkknenmpdimdbaaGreatDoor

namespace Go.Proofs.YtkknenmpdimdbaaGreatDoor
namespace Pa
open TextMath (fold lo normal check wo unhex seqLen check_good check_bad check_ind check_app_good seqLen_le)
open Ke (tyOk tyC tyR utf PR mst ec escF escV OkP OkI OkD)
set_option linter.unusedVariables false
set_option linter.unusedSimpArgs false

abbrev rp (m : Nat) : List UInt8 := List.replicate m 32
/-- A spelling of a pair. -/
def SpP (p : PR) (t : List UInt8) : Prop := ∃ a b c d vt, t = rp a ++ (p.1 ++ (rp b ++ 61 :: (rp c ++ (vt ++ rp d)))) ∧ SpV p.2 vt
def SpR : List PR → List (List UInt8) → Prop
  | [], [] => True
  | p :: k, t :: K => SpP p t ∧ SpR k K
  | [], _ :: _ => False
  | _ :: _, [] => False
def SpD : List (List PR) → List (List (List UInt8)) → Prop
  | [], [] => True
  | r :: D, T :: TT => SpR r T ∧ SpD D TT
  | [], _ :: _ => False
  | _ :: _, [] => False
def ptxT (K : List (List UInt8)) : List UInt8 := K.flatMap fun t => 43 :: t
def partT : List (List UInt8) → List UInt8
  | [] => []
  | t :: K => t ++ ptxT K
def dnxT (TT : List (List (List UInt8))) : List UInt8 := TT.flatMap fun T => 44 :: partT T
def nameT : List (List (List UInt8)) → List UInt8
  | [] => []
  | T :: TT => partT T ++ dnxT TT
theorem SpR.snoc : ∀ {k : List PR} {K : List (List UInt8)} {p : PR} {t : List UInt8}, SpR k K → SpP p t → SpR (k ++ [p]) (K ++ [t])
  | [], [], p, t, _, h => ⟨h, trivial⟩
  | [], _ :: _, p, t, h, _ => h.elim
  | _ :: _, [], p, t, h, _ => h.elim
  | q :: k, s :: K, p, t, h, h2 => ⟨h.1, SpR.snoc h.2 h2⟩
theorem SpD.snoc : ∀ {k : List (List PR)} {K : List (List (List UInt8))} {p : List PR} {t : List (List UInt8)}, SpD k K → SpR p t → SpD (k ++ [p]) (K ++ [t])
  | [], [], p, t, _, h => ⟨h, trivial⟩
  | [], _ :: _, p, t, h, _ => h.elim
  | _ :: _, [], p, t, h, _ => h.elim
  | q :: k, s :: K, p, t, h, h2 => ⟨h.1, SpD.snoc h.2 h2⟩
theorem ty_ne (h : tyOk [] = true) : False := by
  have e : tyOk [] = false := by decide +kernel
  rw [e] at h
  cases h
theorem rp_add (a b : Nat) (X : List UInt8) : rp a ++ (rp b ++ X) = rp (a + b) ++ X := by
  unfold rp
  rw [← List.append_assoc, List.replicate_append_replicate]
/-- A spelt pair is read back. -/
theorem pair_sp (ahead : List (List UInt8)) (p : PR) (t X : List UInt8) (hX : En X) (h : SpP p t) (ht : tyOk p.1 = true) (ha : tyC p.1 ∉ ahead) (hu : utf p.2 = true) :
    ∃ Y, pt ahead (sp (t ++ X)) = .ok (p.1, Y) ∧ pv hxO Y = some (.ok (p.2, X)) := by
  obtain ⟨a, b, c, d, vt, rfl, hv⟩ := h
  obtain ⟨Z, hZ⟩ : ∃ Z, rp c ++ (vt ++ (rp d ++ X)) = Z := ⟨_, rfl⟩
  have e1 : (rp a ++ (p.1 ++ (rp b ++ 61 :: (rp c ++ (vt ++ rp d))))) ++ X = rp a ++ (p.1 ++ (rp b ++ 61 :: Z)) := by rw [← hZ]; simp [List.append_assoc]
  have hne : (p.1 ++ (rp b ++ 61 :: Z)).head? ≠ some 32 := by
    have h2 := ty_tb p.1 ht
    cases hp : p.1 with
    | nil => rw [hp] at ht; exact (ty_ne ht).elim
    | cons x y =>
      rw [hp] at h2
      have := h2 x (List.mem_cons_self ..)
      intro e
      simp at e
      rw [e] at this
      revert this
      decide
  have hnt : ∀ x, (rp b ++ 61 :: Z).head? = some x → tb x = false := fun x hx => by
    cases b with
    | zero => simp [rp] at hx; subst hx; decide
    | succ b => simp [rp, List.replicate_succ] at hx; subst hx; decide
  obtain ⟨h1, h2⟩ := tw_all tb p.1 (rp b ++ 61 :: Z) (ty_tb p.1 ht) hnt
  have hpt : pt ahead (sp (rp a ++ (p.1 ++ (rp b ++ 61 :: Z)))) = .ok (p.1, sp Z) := by
    rw [sp_rep a _ hne]
    unfold pt
    rw [h1, h2, if_neg (by rw [ht]; decide), if_neg ha, sp_rep b _ (by simp), if_pos (by simp)]
    rfl
  refine ⟨sp Z, by rw [e1, hpt], ?_⟩
  obtain ⟨g1, g2, g3⟩ := pv_spell p.2 vt X d hX hu hv
  by_cases hvt : vt = []
  · rw [g3 hvt]
    rw [hvt, List.nil_append, rp_add] at hZ
    rw [← hZ, sp_rep _ _ hX.ne]
    unfold pv
    have h35 : X.head? ≠ some 35 := by
      rcases hX with rfl | ⟨c, t, rfl, h2⟩
      · simp
      · rcases h2 with rfl | rfl <;> simp
    rw [if_neg h35]
    have := tv_spaces X hX 0 (X.length + 1) [] 0 (by omega) (Nat.le_refl _)
    rw [List.replicate_zero, List.nil_append] at this
    rw [this]
    rw [g3 hvt] at hu
    simp [hu]
  · rw [← hZ, sp_rep c _ (by
      cases vt with
      | nil => exact absurd rfl hvt
      | cons x y => simpa using g1)]
    rcases g2 with g2 | g2
    · exact absurd g2 hvt
    · exact g2
theorem ptxT_en (K : List (List UInt8)) (r : List UInt8) (hr : r = [] ∨ ∃ t, r = 44 :: t) : En (ptxT K ++ r) := by
  cases K with
  | nil =>
    show En ([] ++ r)
    rcases hr with rfl | ⟨t, rfl⟩
    · exact Or.inl rfl
    · exact Or.inr ⟨_, _, rfl, Or.inl rfl⟩
  | cons t K => exact Or.inr ⟨43, t ++ (ptxT K ++ r), by simp [ptxT], Or.inr rfl⟩
/-- A spelt part is read back. -/
theorem prt_sp (num : Nat) (hnum : num ≠ 64) (r : List UInt8) (hr : r = [] ∨ ∃ t, r = 44 :: t) : ∀ (k : List PR) (K : List (List UInt8)) (p : PR) (t : List UInt8) (n : Nat) (ps : List PR), SpP p t → SpR k K → OkP (ps ++ p :: k) → k.length < n → prt hxO n num ps (t ++ (ptxT K ++ r)) = some (.ok (ps ++ p :: k, r)) := by
  intro k
  induction k with
  | nil =>
    intro K p t n ps hp hk hok hn
    cases K with
    | cons _ _ => exact hk.elim
    | nil =>
      obtain ⟨m, rfl⟩ : ∃ m, n = m + 1 := ⟨n - 1, by omega⟩
      have hE := ptxT_en [] r hr
      have h8 : ps.length ≠ 8 := by have := hok.2.1; simp at this; omega
      obtain ⟨hi, h1, h2, h3⟩ := hok.2.2 ps.length (by simp)
      rw [List.getElem_append_right (Nat.le_refl _)] at h1 h2 h3
      simp only [Nat.sub_self, List.getElem_cons_zero] at h1 h2 h3
      rw [List.take_left] at h2
      obtain ⟨Y, y1, y2⟩ := pair_sp (ps.map fun p => tyC p.1) p t (ptxT [] ++ r) hE hp h1 h2 h3
      unfold prt
      rw [if_neg (by omega), y1]
      dsimp only
      rw [y2]
      dsimp only
      rw [if_neg (by show ([] ++ r).head? ≠ _; rcases hr with rfl | ⟨t, rfl⟩ <;> simp)]
      rfl
  | cons q k ih =>
    intro K p t n ps hp hk hok hn
    cases K with
    | nil => exact hk.elim
    | cons u K =>
      rw [List.length_cons] at hn
      obtain ⟨m, rfl⟩ : ∃ m, n = m + 1 := ⟨n - 1, by omega⟩
      have e : ptxT (u :: K) ++ r = 43 :: (u ++ (ptxT K ++ r)) := by simp [ptxT]
      have hE := ptxT_en (u :: K) r hr
      have h8 : ps.length ≠ 8 := by have := hok.2.1; simp at this; omega
      obtain ⟨hi, h1, h2, h3⟩ := hok.2.2 ps.length (by simp)
      rw [List.getElem_append_right (Nat.le_refl _)] at h1 h2 h3
      simp only [Nat.sub_self, List.getElem_cons_zero] at h1 h2 h3
      rw [List.take_left] at h2
      have hrec := ih K q u m (ps ++ [p]) hk.1 hk.2 (by rw [List.append_assoc]; exact hok) (by omega)
      obtain ⟨Y, y1, y2⟩ := pair_sp (ps.map fun p => tyC p.1) p t (ptxT (u :: K) ++ r) hE hp h1 h2 h3
      unfold prt
      rw [if_neg (by omega), y1]
      dsimp only
      rw [y2]
      dsimp only
      rw [if_pos (by rw [e]; rfl), e]
      show prt hxO m num (ps ++ [p]) (u ++ (ptxT K ++ r)) = _
      rw [hrec, List.append_assoc]
      rfl
theorem part_sp (num : Nat) (hnum : num ≠ 64) (r : List UInt8) (hr : r = [] ∨ ∃ t, r = 44 :: t) (k : List PR) (K : List (List UInt8)) (hk : SpR k K) (hok : OkP k) : prt hxO 9 num [] (partT K ++ r) = some (.ok (k, r)) := by
  cases k with
  | nil => have := hok.1; simp at this
  | cons p k =>
    cases K with
    | nil => exact hk.elim
    | cons t K =>
      have := prt_sp num hnum r hr k K p t 9 [] hk.1 hk.2 hok (by have := hok.2.1; simp at this; omega)
      show prt hxO 9 num [] ((t ++ ptxT K) ++ r) = _
      rw [List.append_assoc]
      exact this
theorem nm_sp : ∀ (K : List (List PR)) (KT : List (List (List UInt8))) (r : List PR) (T : List (List UInt8)) (n : Nat) (D0 : List (List PR)), SpR r T → SpD K KT → OkD (D0 ++ r :: K) → K.length < n → nmP hxO n D0 (partT T ++ dnxT KT) = some (.ok (D0 ++ r :: K)) := by
  intro K
  induction K with
  | nil =>
    intro KT r T n D0 h1 h2 hok hn
    cases KT with
    | cons _ _ => exact h2.elim
    | nil =>
      obtain ⟨m, rfl⟩ : ∃ m, n = m + 1 := ⟨n - 1, by omega⟩
      have hr := hok.2 r (by simp)
      have h64 : D0.length ≠ 64 := by have := hok.1; simp at this; omega
      have hp := part_sp D0.length h64 [] (Or.inl rfl) r T h1 hr
      unfold nmP
      rw [show dnxT [] = [] from rfl, hp]
      rfl
  | cons q K ih =>
    intro KT r T n D0 h1 h2 hok hn
    cases KT with
    | nil => exact h2.elim
    | cons U KT =>
      rw [List.length_cons] at hn
      obtain ⟨m, rfl⟩ : ∃ m, n = m + 1 := ⟨n - 1, by omega⟩
      have hr := hok.2 r (by simp)
      have h64 : D0.length ≠ 64 := by have := hok.1; simp at this; omega
      have e : dnxT (U :: KT) = 44 :: (partT U ++ dnxT KT) := by simp [dnxT]
      have hp := part_sp D0.length h64 (dnxT (U :: KT)) (Or.inr ⟨_, e⟩) r T h1 hr
      have hrec := ih KT q U m (D0 ++ [r]) h2.1 h2.2 (by rw [List.append_assoc]; exact hok) (by omega)
      unfold nmP
      rw [hp]
      dsimp only
      rw [if_pos (by rw [e]; rfl), e]
      show nmP hxO m (D0 ++ [r]) (partT U ++ dnxT KT) = _
      rw [hrec, List.append_assoc]
      rfl
theorem SpL.split {k N : Nat} : ∀ (n : Nat) {v : List UInt8} {i : Nat} {ts : List (List UInt8)}, SpL k N i v ts → n ≤ v.length → SpL k N i (v.take n) (ts.take n) ∧ SpL k N (i + n) (v.drop n) (ts.drop n)
  | 0, v, i, ts, h, _ => ⟨by simp [SpL], by simpa using h⟩
  | n + 1, [], i, ts, h, hn => by simp at hn
  | n + 1, d :: v, i, [], h, _ => h.elim
  | n + 1, d :: v, i, s :: ts, h, hn => by
    obtain ⟨h1, h2⟩ := SpL.split n h.2 (by simpa using hn)
    refine ⟨⟨h.1, h1⟩, ?_⟩
    rw [show i + (n + 1) = i + 1 + n from by omega]
    exact h2
theorem spL_high {k N : Nat} (hk : k ≠ 1) : ∀ {v : List UInt8} {i : Nat} {ts : List (List UInt8)}, SpL k N i v ts → (∀ c ∈ v, 128 ≤ c.toNat) → ts.flatten = v
  | [], i, [], _, _ => rfl
  | [], i, _ :: _, h, _ => h.elim
  | _ :: _, i, [], h, _ => h.elim
  | c :: v, i, t :: ts, h, hh => by
    have hc := hh c (List.mem_cons_self ..)
    have ht : t = [c] := by
      rcases h.1 with ⟨rfl, _⟩ | ⟨_, he⟩ | ⟨x, y, _, _, hk1⟩
      · rfl
      · have := es_low c he; omega
      · exact absurd (hk1 hc) hk
    rw [List.flatten_cons, ht, spL_high hk h.2 (fun x hx => hh x (List.mem_cons_of_mem _ hx))]
    rfl
theorem spB_asc {k N i : Nat} {c : UInt8} {t : List UInt8} (h : SpB k N i c t) (hc : c.toNat < 128 ∨ k = 1) : ∀ x ∈ t, x.toNat < 128 := by
  intro x hx
  rcases h with ⟨rfl, _, _, h2⟩ | ⟨rfl, he⟩ | ⟨a, b, rfl, h2, _⟩
  · rw [List.mem_singleton] at hx
    subst hx
    rcases hc with h | h
    · exact h
    · exact Nat.lt_of_not_le (fun q => h2 q h)
  · rcases List.mem_cons.1 hx with rfl | hx
    · decide
    · rw [List.mem_singleton] at hx; subst hx; exact es_low x he
  · rcases List.mem_cons.1 hx with rfl | hx
    · decide
    · rcases List.mem_cons.1 hx with rfl | hx
      · exact (wo_low x h2.hd.1).1
      · rw [List.mem_singleton] at hx; subst hx; exact (wo_low x h2.hd.2).1
theorem spL_asc {k N : Nat} (hk : k = 1) : ∀ {v : List UInt8} {i : Nat} {ts : List (List UInt8)}, SpL k N i v ts → ∀ x ∈ ts.flatten, x.toNat < 128
  | [], i, [], _ => fun x hx => by simp at hx
  | [], i, _ :: _, h => h.elim
  | _ :: _, i, [], h => h.elim
  | c :: v, i, t :: ts, h => fun x hx => by
    rw [List.flatten_cons] at hx
    rcases List.mem_append.1 hx with hx | hx
    · exact spB_asc h.1 (Or.inr hk) x hx
    · exact spL_asc hk h.2 x hx
theorem chk_spL (k N : Nat) (hk : k ≠ 1) : ∀ (n : Nat) (l : List UInt8), l.length ≤ n → ∀ i ts, SpL k N i l ts → (check l).1 = true → (check ts.flatten).1 = true := by
  refine check_ind (M := fun l => ∀ i ts, SpL k N i l ts → (check l).1 = true → (check ts.flatten).1 = true) (fun i ts h _ => ?_) (fun l h1 h2 i ts _ h => ?_) (fun l h1 ih i ts hs h => ?_)
  · cases ts with
    | nil => rfl
    | cons _ _ => exact h.elim
  · rw [check_bad l h1 h2] at h
    cases h
  · rw [check_good l h1] at h
    have hle := seqLen_le l
    obtain ⟨s1, s2⟩ := SpL.split (seqLen l) hs hle
    have h3 := ih (i + seqLen l) (ts.drop (seqLen l)) s2 h
    have ht : (check (l.take (seqLen l))).1 = true := by
      have e := TextMath.seqLen_take l (seqLen l) (Nat.le_refl _) (by omega)
      rw [check_good _ (by rw [e]; exact h1), e]
      rw [List.drop_eq_nil_of_le (by rw [List.length_take]; omega)]
      rfl
    have hfl : ts.flatten = (ts.take (seqLen l)).flatten ++ (ts.drop (seqLen l)).flatten := by rw [← List.flatten_append, List.take_append_drop]
    rw [hfl]
    refine chk_app ?_ h3
    by_cases h2 : 2 ≤ seqLen l
    · rw [spL_high hk s1 (fun c hc => ?_)]
      · exact ht
      · obtain ⟨j, hj, hx⟩ := List.getElem_of_mem hc
        rw [List.length_take] at hj
        have := Bl.seq_high l h2 j (by omega)
        rw [List.getElem_take] at hx
        rw [List.getD_eq_getElem?_getD, List.getElem?_eq_getElem (by omega), hx] at this
        exact this
    · have h1' : seqLen l = 1 := by omega
      rw [h1'] at ht s1 ⊢
      match l, hle with
      | [], hh => rw [h1'] at hh; simp at hh
      | c :: r, _ =>
        cases ts with
        | nil => exact hs.elim
        | cons t ts =>
          show (check [t].flatten).1 = true
          rw [List.flatten_cons, List.flatten_nil, List.append_nil]
          have hc : c.toNat < 128 := by
            have ht' : (check [c]).1 = true := ht
            have key : ∀ n : Fin 256, (check [UInt8.ofNat n.val]).1 = true → (UInt8.ofNat n.val).toNat < 128 := by decide +kernel
            have h2 := key ⟨c.toNat, c.toNat_lt⟩
            rw [UInt8.ofNat_toNat] at h2
            exact h2 ht'
          exact chk_asc t (spB_asc hs.1 (Or.inl hc))
theorem chk_spV {v t : List UInt8} (hu : utf v = true) (h : SpV v t) : (check t).1 = true := by
  rcases h with ⟨k, ts, hs, rfl⟩ | ⟨_, g, ds, _, hd', rfl⟩
  · by_cases hk : k = 1
    · exact chk_asc _ (spL_asc hk hs)
    · exact chk_spL k _ hk _ v (Nat.le_refl _) 0 ts hs hu
  · refine chk_app (a := [35]) (by decide) (chk_asc _ (fun c hc => (wo_low c (hd'.hd c hc)).1))
theorem chk_rp (m : Nat) : (check (rp m)).1 = true := chk_asc _ (fun c hc => by have := List.eq_of_mem_replicate hc; subst this; decide)
theorem chk_spP {p : PR} {t : List UInt8} (h : SpP p t) (h1 : tyOk p.1 = true) (h2 : utf p.2 = true) : (check t).1 = true := by
  obtain ⟨a, b, c, d, vt, rfl, hv⟩ := h
  refine chk_app (chk_rp a) (chk_app (chk_asc _ (fun x hx => tb_low x (ty_tb p.1 h1 x hx))) (chk_app (chk_rp b) (chk_app (a := [61]) (by decide) (chk_app (chk_rp c) (chk_app (chk_spV h2 hv) (chk_rp d))))))
theorem chk_spR : ∀ (k : List PR) (K : List (List UInt8)), SpR k K → (∀ p ∈ k, tyOk p.1 = true ∧ utf p.2 = true) → (check (ptxT K)).1 = true
  | [], [], _, _ => rfl
  | [], _ :: _, h, _ => h.elim
  | _ :: _, [], h, _ => h.elim
  | p :: k, t :: K, h, hh => by
    show (check ((43 :: t) ++ ptxT K)).1 = true
    obtain ⟨h1, h2⟩ := hh p (List.mem_cons_self ..)
    exact chk_app (chk_app (a := [43]) (by decide) (chk_spP h.1 h1 h2)) (chk_spR k K h.2 (fun q hq => hh q (List.mem_cons_of_mem _ hq)))
theorem chk_partT {k : List PR} {K : List (List UInt8)} (h : SpR k K) (hk : OkP k) : (check (partT K)).1 = true := by
  cases k with
  | nil => cases K with
    | nil => rfl
    | cons _ _ => exact h.elim
  | cons p k => cases K with
    | nil => exact h.elim
    | cons t K =>
      obtain ⟨h1, h2⟩ := okP_all hk p (List.mem_cons_self ..)
      exact chk_app (chk_spP h.1 h1 h2) (chk_spR k K h.2 (fun q hq => okP_all hk q (List.mem_cons_of_mem _ hq)))
theorem chk_dnxT : ∀ (D : List (List PR)) (TT : List (List (List UInt8))), SpD D TT → (∀ r ∈ D, OkP r) → (check (dnxT TT)).1 = true
  | [], [], _, _ => rfl
  | [], _ :: _, h, _ => h.elim
  | _ :: _, [], h, _ => h.elim
  | r :: D, T :: TT, h, hh => by
    show (check ((44 :: partT T) ++ dnxT TT)).1 = true
    exact chk_app (chk_app (a := [44]) (by decide) (chk_partT h.1 (hh r (List.mem_cons_self ..)))) (chk_dnxT D TT h.2 (fun q hq => hh q (List.mem_cons_of_mem _ hq)))
/-- However a name is spelt, it is read back. -/
theorem prs_spelt (D : List (List PR)) (TT : List (List (List UInt8))) (hD : OkD D) (hne : D ≠ []) (h : SpD D TT) (hl : (nameT TT).length ≤ 4096) : prs hxO (nameT TT) = some (.ok D) := by
  cases D with
  | nil => exact absurd rfl hne
  | cons r K =>
    cases TT with
    | nil => exact h.elim
    | cons T KT =>
      have hu : utf (nameT (T :: KT)) = true := chk_app (chk_partT h.1 (hD.2 r (List.mem_cons_self ..))) (chk_dnxT K KT h.2 (fun q hq => hD.2 q (List.mem_cons_of_mem _ hq)))
      unfold prs
      rw [if_neg (by omega), if_neg (by rw [hu]; decide)]
      have hn := nm_sp K KT r T 65 [] h.1 h.2 hD (by have := hD.1; simp at this; omega)
      have hne2 : nameT (T :: KT) ≠ [] := by
        intro e
        have e' : partT T ++ dnxT KT = [] := e
        rw [e'] at hn
        have hz : nmP hxO 65 [] [] = some (.error (52, 0)) := by
          have ht : tyOk [] = false := by decide +kernel
          unfold nmP prt pt
          simp [sp, ht]
        rw [hz] at hn
        cases hn
      rw [if_neg hne2]
      exact hn
end Pa
end Go.Proofs.YtkknenmpdimdbaaGreatDoor
