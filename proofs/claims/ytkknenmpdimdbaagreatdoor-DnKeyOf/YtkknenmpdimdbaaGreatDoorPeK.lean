import Derived.Test.YtkknenmpdimdbaaGreatDoorFX47
import Derived.Test.YtkknenmpdimdbaaGreatDoorFX49
namespace Go.Proofs.YtkknenmpdimdbaaGreatDoor
namespace Pa
open Go.RowKit
open TextMath (fold lo normal check wo unhex)
open Ke
open Du (PX DRow PRow GRow sd sd_len pV xV pV_len xV_len)
set_option linter.unusedVariables false
set_option linter.unusedSimpArgs false
set_option maxRecDepth 100000
theorem cer_mem {ps : List PR} {num : Int} (h : cer ps num ≠ 0) : cer ps num = 50 ∨ cer ps num = 51 ∨ cer ps num = 57 ∨ cer ps num = 58 ∨ cer ps num = 59 := by
 unfold cer at h ⊢
 split
 ·exact Or.inr (Or.inr (Or.inr (Or.inl rfl)))
 ·rename_i q
  rw [if_neg q] at h
  rcases rer_mem ps with e | e | e | e | e
  ·exact absurd e h
  ·exact Or.inr (Or.inl e)
  ·exact Or.inr (Or.inr (Or.inl e))
  ·exact Or.inr (Or.inr (Or.inr (Or.inl e)))
  ·exact Or.inr (Or.inr (Or.inr (Or.inr e)))
theorem cer_two {ps : List PR} {num : Int} (h : cer ps num ≠ 0) : 50 ≤ cer ps num ∧ cer ps num ≤ 59 := by
 rcases cer_mem h with e | e | e | e | e <;> rw [e] <;> decide
theorem okd_az {D : List (List PR)} (h : OkD D) : Az D := fun j hj => by
 unfold cer
 rw [if_neg (by have := h.1; omega)]
 exact rer_ok (h.2 _ (List.getElem_mem hj))
theorem keysLen (D : List (List PR)) : (keys D).length = D.length := by unfold keys; rw [List.length_reverse, List.length_map]
def Kq (ad : Nat → Addr) (D : List (List PR)) (a : Option Addr) (kl : Nat) (x : Value) (W : World) : Prop :=
 (Az D ∧ kl = D.length ∧ x = .nilIface ∧ Row W a (keys D)) ∨ (∃ k, ∃ h : k < D.length, Fs D k ∧ kl = 0 ∧ x = refV (evP ad) (cer D[k] (k : Int)) (k : Int))
theorem keyF_kq {ad : Nat → Addr} {w w' : World} {D : List (List PR)} {n : Nat} (hn : D.length = n) {e : Ending} (h : KeyF (evP ad) w D n e w') : ∃ a kl c x, e = .returned (.tuple #[.slice a kl c, x]) ∧ Kq ad D a kl x w' := by
 rcases h.2 with ⟨h1, ka, kc, h2, h3⟩ | ⟨k, h1, h2, h3⟩
 ·exact ⟨_, _, _, _, h2, Or.inl ⟨okd_az h1, hn.symm, rfl, (ownS_row h3).1⟩⟩
 ·exact ⟨_, _, _, _, h3, Or.inr ⟨k, h1, h2, rfl, rfl⟩⟩
theorem Kq.below {ad : Nat → Addr} {D : List (List PR)} {a : Option Addr} {kl : Nat} {x : Value} {W W' : World} (h : Kq ad D a kl x W) (hb : Below W.heap.size W W') : Kq ad D a kl x W' := by
 rcases h with ⟨h1, h2, h3, h4⟩ | h
 ·exact Or.inl ⟨h1, h2, h3, h4.below hb⟩
 ·exact Or.inr h
theorem rkF_kq {ad : Nat → Addr} {w w' : World} {D : List (List PR)} {n : Nat} (hn : D.length = n) (hb : D.length ≤ 1073741824) {a : Option Addr} {kl c : Nat} {x : Value} {e : Ending} (hq : Kq ad D a kl x w) (h : RkF w D n e w') :
  ∃ la ll lc, ∃ f at_ : Int, e = .returned (.tuple #[.slice la ll lc, .int .i64 f, .int .i64 at_]) ∧ Below w.heap.size w w' ∧ (Calls Tryz.prog 15 #[.slice a kl c, .slice la ll lc] w' fun e w'' => e = .returned (.bool true) ∧ Below w'.heap.size w' w'') ∧ ∀ W, Sen ad W → ErrT W → Calls Tryz.prog 17 #[x, .int .i64 f, .int .i64 at_] W fun e w' => e = .returned (.bool true) ∧ Below W.heap.size W w' := by
 have same : ∀ (l : List (List UInt8)) (a b : Option Addr) (c d : Nat), l.length ≤ 1073741824 → Row w' a l → Row w' b l → Calls Tryz.prog 15 #[.slice a l.length c, .slice b l.length d] w' fun e w'' => e = .returned (.bool true) ∧ Below w'.heap.size w' w'' := fun l a b c d hl h1 h2 => by
  refine (sameTexts_any l l a b c d w' (by omega) (by omega) h1 h2).mono ?_
  rintro e w'' ⟨rfl, q, rfl⟩
  exact ⟨by rw [decide_eq_true rfl], ⟨rfl, rfl, rfl, Nat.le_refl _, fun _ _ => rfl⟩⟩
 have hkb : Below w.heap.size w w' := h.1
 rcases h.2 with ⟨h1, ka, kc, h2, h3⟩ | ⟨k, h1, h2, h3⟩
 ·rcases hq with ⟨q1, q2, q3, q4⟩ | ⟨m, q1, q2, q3, q4⟩
  ·subst q3
   refine ⟨_, _, _, 0, 0, h2, hkb, ?_, fun W _ _ => lfault_none W⟩
   have hs := same (keys D) a ka c kc (by rw [keysLen]; exact hb) (q4.below hkb) (ownS_row h3).1
   rw [keysLen] at hs
   rw [q2, ← hn]
   exact hs
  ·exact (fs_az q2 h1).elim
 ·rcases hq with ⟨q1, q2, q3, q4⟩ | ⟨m, q1, q2, q3, q4⟩
  ·exact (fs_az h2 q1).elim
  ·have := fs_one h2 q2
   subst this
   subst q3 q4
   refine ⟨_, _, _, _, _, h3, hkb, same [] a none c 0 (by simp) (Row.nil _ _) (Row.nil _ _), fun W hS hT => lfault_all ad _ _ W hS hT (cer_two h2.2.2)⟩
theorem evF_of {ad : Nat → Addr} {W : World} (h : Sen ad W) : ErrsF (evP ad) W :=
 ⟨(h.1 (58, 8) (by decide)).1, (h.1 (59, 9) (by decide)).1, (h.1 (57, 7) (by decide)).1, (h.1 (51, 1) (by decide)).1⟩
def SmN (D : List (List PR)) : Prop := D.length ≤ 64 ∧ ∀ r ∈ D, r.length ≤ 8 ∧ ∀ q ∈ r, q.1.length ≤ 4096 ∧ q.2.length ≤ 4096
def KoF (ad : Nat → Addr) (n : Nat) (w : World) (R : DRs) (e : Ending) (w' : World) : Prop :=
 Below w.heap.size w w' ∧ ((∃ D a kl c x, R = .ok D ∧ e = .returned (.tuple #[.slice a kl c, x]) ∧ Kq ad D a kl x w') ∨ (∃ k m, R = .error (k, m) ∧ e = .returned (.tuple #[.slice none 0 0, refV (evP ad) k ((n - m : Nat) : Int)])))
set_option maxHeartbeats 4000000 in
theorem keyOf_F (ad : Nat → Addr) (t : List UInt8) (w : World) (R : DRs) (hs : t.length ≤ 140737488355328) (hE : Sen ad w) (hR : prs hxO t = some R) (hz : ∀ D, R = .ok D → SmN D) :
  Calls Tryz.prog 12 #[.string (S t)] w fun e w' => KoF ad t.length w R e w' := by
 have hP : Hid (Calls Tryz.prog 10 #[.string (S t)] w fun e w' => PsQ (evP ad) t.length w R e w') := parse_all (evP ad) t w R hs (evP_ok hE) hR
 have h' : Hid (Sen ad w ∧ ∀ D, R = .ok D → SmN D) := ⟨hE, hz⟩
 generalize S t = st at *
 generalize t.length = tl at *
 clear hs hE hR hz
 go_enter Tryz.func12, Tryz.ntmps12
 go_wp2_with fail
 refine hP.out.mono ?_
 rintro e w1 ⟨hb, ⟨D, va, c, Ls, h1, rfl, hd, hsd⟩ | ⟨k, m, h1, rfl⟩⟩
 ·have hz1 := h'.out.2 D h1
  have hK : Hid (Calls Tryz.prog 13 #[.slice va D.length c] w1 fun e w' => KeyF (evP ad) w1 D D.length e w') := by
   have h := key_F (evP ad) va c D.length Ls w1 (evF_of (h'.out.1.below hb)) (by rw [← hsd, sd_len]) hd (fun r hr p hp => by have := (hz1.2 r.2.2 (by rw [← hsd]; exact List.mem_map.2 ⟨r, hr, rfl⟩)).2 p hp; omega) (fun r hr => by have := (hz1.2 r.2.2 (by rw [← hsd]; exact List.mem_map.2 ⟨r, hr, rfl⟩)).1; omega) (by have := hz1.1; omega)
   rw [hsd] at h
   exact h
  have hb' : Hid (Below w.heap.size w w1) := hb
  have h1' : Hid (R = .ok D) := h1
  obtain ⟨n, hn⟩ : ∃ n, D.length = n := ⟨_, rfl⟩
  have hn' : Hid (D.length = n) := hn
  rw [hn] at hK ⊢
  clear hP hb hd hsd h1 hz1 hn
  go_wp2_with fail
  refine hK.out.mono ?_
  rintro e w2 hq
  obtain ⟨a, kl, kc, x, rfl, hkq⟩ := keyF_kq hn'.out hq
  have hfin : Hid (KoF ad tl w R (.returned (.tuple #[.slice a kl kc, x])) w2) := ⟨hb'.out.trans (hq.1.mono hb'.out.size), Or.inl ⟨D, a, kl, kc, x, h1'.out, rfl, hkq⟩⟩
  clear hK hq hkq
  go_wp2_with fail
  go_ret2
  exact hfin.out
 ·have hfin : Hid (KoF ad tl w R (.returned (.tuple #[.slice none 0 0, refV (evP ad) k ((tl - m : Nat) : Int)])) w1) := ⟨hb, Or.inr ⟨k, m, h1, rfl⟩⟩
  obtain ⟨tt, u, hrv⟩ : ∃ t u, refV (evP ad) k ((tl - m : Nat) : Int) = .iface t u := ⟨_, _, rfl⟩
  rw [hrv] at hfin ⊢
  clear hP hb h1 hrv
  go_wp2_with fail
  go_ret2
  exact hfin.out
def RoF (n : Nat) (w : World) (R : DRs) (e : Ending) (w' : World) : Prop :=
 (∃ D w1, R = .ok D ∧ SmN D ∧ Below w.heap.size w w1 ∧ RkF w1 D D.length e w') ∨ (Below w.heap.size w w' ∧ ∃ k m, R = .error (k, m) ∧ e = .returned (.tuple #[.slice none 0 0, .int .i64 (k : Int), .int .i64 ((n - m : Nat) : Int)]))
set_option maxHeartbeats 4000000 in
theorem rkeyOf_any (t : List UInt8) (w : World) (R : DRs) (hs : t.length ≤ 140737488355328) (hT : RowTab w) (hR : prs hxO t = some R) :
  Calls Tryz.prog 18 #[.string (S t)] w fun e w' => RoF t.length w R e w' := by
 have hP : Hid (Calls Tryz.prog 16 #[.string (S t)] w fun e w' => PrQ5 t.length w R e w') := rparse_any t w R hs hT hR
 have h' : Hid (RowTab w) := hT
 have hR' : Hid (prs hxO t = some R) := hR
 generalize S t = st at *
 generalize t.length = tl at *
 clear hs hT hR
 go_enter Tryz.func18, Tryz.ntmps18
 go_wp2_with fail
 refine hP.out.mono ?_
 rintro e w1 ⟨hb, ⟨D, va, c, Ls, h1, rfl, hd, hsd, h64, hz⟩ | ⟨k, m, h1, rfl⟩⟩
 ·have hK : Hid (Calls Tryz.prog 22 #[.slice va D.length c] w1 fun e w' => RkF w1 D D.length e w') := by
   have h := rkey_any va c D.length Ls w1 (rowTab_below h'.out hb) (by rw [← hsd, sd_len]) hd (fun r hr p hp => by have := (hz r.2.2 (by rw [← hsd]; exact List.mem_map.2 ⟨r, hr, rfl⟩)).2 p hp; omega) (fun r hr => by have := (hz r.2.2 (by rw [← hsd]; exact List.mem_map.2 ⟨r, hr, rfl⟩)).1; omega) (by omega)
   rw [hsd] at h
   exact h
  have h1' : Hid (R = .ok D ∧ SmN D ∧ Below w.heap.size w w1) := ⟨h1, ⟨h64, hz⟩, hb⟩
  obtain ⟨n, hn⟩ : ∃ n, D.length = n := ⟨_, rfl⟩
  have hn' : Hid (D.length = n) := hn
  rw [hn] at hK ⊢
  clear hP hb hd hsd h1 h64 hz hn
  go_wp2_with fail
  refine hK.out.mono ?_
  rintro e w2 hq
  have hfin : Hid (RoF tl w R e w2) := Or.inl ⟨D, w1, h1'.out.1, h1'.out.2.1, h1'.out.2.2, by rw [hn'.out]; exact hq⟩
  rcases hq.2 with ⟨_, ka, kc, rfl, _⟩ | ⟨k, h, _, rfl⟩
  ·clear hK hq
   go_wp2_with fail
   go_ret3
   exact hfin.out
  ·generalize (k : Int) = kk at *
   generalize (cer _ _ : Int) = cc at *
   clear hK hq
   go_wp2_with fail
   go_ret3
   exact hfin.out
 ·have hfin : Hid (RoF tl w R (.returned (.tuple #[.slice none 0 0, .int .i64 (k : Int), .int .i64 ((tl - m : Nat) : Int)])) w1) := Or.inr ⟨hb, k, m, h1, rfl⟩
  have hk0 : ((k : Int) != 0) = true := by
   have := prs_code (by rw [hR'.out, h1])
   rw [bne_iff_ne]
   omega
  generalize ((tl - m : Nat) : Int) = pl at *
  generalize (k : Int) = kk at *
  clear hP hb h1
  go_wp2_with fail
  go_ret3
  exact hfin.out
theorem calls_ex {P : Program} {f : FuncId} {args : Array Value} {w : World} {Q : Ending → World → Prop} (h : Calls P f args w Q) : ∃ e w', Q e w' := by
 obtain ⟨e, w', _, h, _⟩ := h []
 exact ⟨e, w', h⟩
theorem smN_of (t : List UInt8) (w : World) (R : DRs) (hs : t.length ≤ 140737488355328) (hT : RowTab w) (hR : prs hxO t = some R) : ∀ D, R = .ok D → SmN D := fun D hD => by
 obtain ⟨e, w', _, ⟨D2, va, c, L, h1, _, _, _, h64, hz⟩ | ⟨k, m, h1, _⟩⟩ := calls_ex (rparse_any t w R hs hT hR)
 ·rw [hD] at h1
  injection h1 with h1
  subst h1
  exact ⟨h64, hz⟩
 ·rw [hD] at h1
  cases h1
theorem same_texts_nil (w : World) : Calls Tryz.prog 15 #[.slice none 0 0, .slice none 0 0] w fun e w'' => e = .returned (.bool true) ∧ Below w.heap.size w w'' := by
 refine (sameTexts_any [] [] none none 0 0 w (by decide) (by decide) (Row.nil _ _) (Row.nil _ _)).mono ?_
 rintro e w'' ⟨rfl, q, rfl⟩
 exact ⟨by rw [decide_eq_true rfl], ⟨rfl, rfl, rfl, Nat.le_refl _, fun _ _ => rfl⟩⟩
set_option maxHeartbeats 8000000 in
theorem dnKeyOf_walk (ad : Nat → Addr) (t : List UInt8) (w : World) (ht : t.length ≤ 140737488355328) (hS : Sen ad w) (hE : ErrT w) (hG : RowTab w) :
  Calls Tryz.prog 5 #[.string (S t)] w fun e w' => e = .returned (.bool true) ∧ Below w.heap.size w w' := by
 obtain ⟨R, hR⟩ := prs_total t
 have hR' : Hid (prs hxO t = some R) := hR
 have hP : Hid (Calls Tryz.prog 12 #[.string (S t)] w fun e w' => KoF ad t.length w R e w') := keyOf_F ad t w R ht hS hR (smN_of t w R ht hG hR)
 have hQ : ∀ W, Below w.heap.size w W → Hid (Calls Tryz.prog 18 #[.string (S t)] W fun e w' => RoF t.length W R e w') := fun W hb => rkeyOf_any t W R ht (rowTab_below hG hb) hR
 have hS' : Hid (Sen ad w ∧ ErrT w) := ⟨hS, hE⟩
 generalize S t = st at *
 obtain ⟨n, hn⟩ : ∃ n, t.length = n := ⟨_, rfl⟩
 rw [hn] at hP hQ
 clear ht hS hE hG hR hn
 go_enter Tryz.func5, Tryz.ntmps5
 go_wp2_with fail
 refine hP.out.mono ?_
 rintro e w1 ⟨hb1, ⟨D, a, kl, kc, x, h1, rfl, hkq⟩ | ⟨k, m, h1, rfl⟩⟩
 ·have hQ1 := hQ w1 hb1
  have h1' : Hid (R = .ok D ∧ Kq ad D a kl x w1 ∧ Below w.heap.size w w1) := ⟨h1, hkq, hb1⟩
  clear hP hQ hb1 h1 hkq
  go_wp2_with fail
  refine hQ1.out.mono ?_
  rintro e w2 (⟨D2, w1', h2, hsm2, hb2, hk⟩ | ⟨hb2, k, m, h2, rfl⟩)
  ·obtain ⟨q1, q2, q3⟩ := h1'.out
   have hD : D2 = D := by rw [h2] at q1; injection q1
   subst hD
   obtain ⟨la, ll, lc, f, at_, rfl, hbp, hsm, hF⟩ := rkF_kq (c := kc) rfl (by have := hsm2.1; omega) (q2.below hb2) hk
   have hb3 : Hid (Below w.heap.size w w2) := (q3.trans (hb2.mono q3.size)).trans (hbp.mono (q3.trans (hb2.mono q3.size)).size)
   have hsm' : Hid (Calls Tryz.prog 15 #[.slice a kl kc, .slice la ll lc] w2 fun e w'' => e = .returned (.bool true) ∧ Below w2.heap.size w2 w'') := hsm
   have hF' : Hid (∀ W, Sen ad W → ErrT W → Calls Tryz.prog 17 #[x, .int .i64 f, .int .i64 at_] W fun e w' => e = .returned (.bool true) ∧ Below W.heap.size W w') := hF
   clear hQ1 q1 q2 q3 h2 hsm2 hb2 hk hbp hsm hF h1'
   go_wp2_with fail
   refine hsm'.out.mono ?_
   rintro e w3 ⟨rfl, hb⟩
   have hb4 : Hid (Below w.heap.size w w3) := hb3.out.trans (hb.mono hb3.out.size)
   have hF4 : Hid (Calls Tryz.prog 17 #[x, .int .i64 f, .int .i64 at_] w3 fun e w' => e = .returned (.bool true) ∧ Below w3.heap.size w3 w') := hF'.out w3 (hS'.out.1.below hb4.out) (errT_below hS'.out.2 hb4.out)
   clear hsm' hF' hb
   go_wp2_with fail
   refine hF4.out.mono ?_
   rintro e w4 ⟨rfl, hb⟩
   have hfin : Hid (Below w.heap.size w w4) := hb4.out.trans (hb.mono hb4.out.size)
   clear hF4 hb
   go_wp2_with fail
   go_ret
   exact ⟨rfl, hfin.out⟩
  ·have := h1'.out.1
   rw [h2] at this
   cases this
 ·have hQ1 := hQ w1 hb1
  have h1' : Hid (R = .error (k, m) ∧ Below w.heap.size w w1) := ⟨h1, hb1⟩
  obtain ⟨x, hx⟩ : ∃ x, refV (evP ad) k ((n - m : Nat) : Int) = x := ⟨_, rfl⟩
  have hx' : Hid (refV (evP ad) k ((n - m : Nat) : Int) = x) := hx
  rw [hx]
  clear hP hQ hb1 h1 hx
  go_wp2_with fail
  refine hQ1.out.mono ?_
  rintro e w2 (⟨D2, w1', h2, hsm2, hb2, hk⟩ | ⟨hb2, k2, m2, h2, rfl⟩)
  ·have := h1'.out.1
   rw [h2] at this
   cases this
  ·have q1 := h1'.out.1
   rw [h2] at q1
   injection q1 with q1
   injection q1 with q1 q2
   subst q1 q2
   have hcd : 50 ≤ k2 ∧ k2 ≤ 59 := by
    have := prs_code (by rw [hR'.out, h2])
    omega
   have hb2' : Hid (Below w.heap.size w w2) := h1'.out.2.trans (hb2.mono h1'.out.2.size)
   have hSm : Hid (Calls Tryz.prog 15 #[.slice none 0 0, .slice none 0 0] w2 fun e w'' => e = .returned (.bool true) ∧ Below w2.heap.size w2 w'') := same_texts_nil w2
   have hF : Hid (∀ W, Below w2.heap.size w2 W → Calls Tryz.prog 17 #[x, .int .i64 (k2 : Int), .int .i64 ((n - m2 : Nat) : Int)] W fun e w' => e = .returned (.bool true) ∧ Below W.heap.size W w') := fun W hbW => by
    have hbq := hb2'.out.trans (hbW.mono hb2'.out.size)
    have := lfault_all ad k2 ((n - m2 : Nat) : Int) W (hS'.out.1.below hbq) (errT_below hS'.out.2 hbq) hcd
    rw [← hx'.out]
    exact this
   generalize ((n - m2 : Nat) : Int) = pl at *
   generalize (k2 : Int) = kk at *
   clear hQ1 hb2 h2 hcd h1'
   go_wp2_with fail
   refine hSm.out.mono ?_
   rintro e w3 ⟨rfl, hb⟩
   have hb3 : Hid (Below w.heap.size w w3) := hb2'.out.trans (hb.mono hb2'.out.size)
   have hFq : Hid (Calls Tryz.prog 17 #[x, .int .i64 kk, .int .i64 pl] w3 fun e w' => e = .returned (.bool true) ∧ Below w3.heap.size w3 w') := hF.out w3 hb
   clear hSm hF hb
   go_wp2_with fail
   refine hFq.out.mono ?_
   rintro e w4 ⟨rfl, hb4⟩
   have hfin : Hid (Below w.heap.size w w4) := hb3.out.trans (hb4.mono hb3.out.size)
   clear hFq hb4
   go_wp2_with fail
   go_ret
   exact ⟨rfl, hfin.out⟩
end Pa
end Go.Proofs.YtkknenmpdimdbaaGreatDoor
