import Derived.Test.YtkknenmpdimdbaaGreatDoorFW32
import Derived.Test.YtkknenmpdimdbaaGreatDoorFW35
namespace Go.Proofs.YtkknenmpdimdbaaGreatDoor
namespace Pa
open Go.RowKit
open TextMath (fold lo normal check wo unhex)
open BerMath (El TR)
set_option linter.unusedVariables false
set_option linter.unusedSimpArgs false
set_option maxRecDepth 100000
def reV (n : Nat) : VR → Value
 | .ok x => .tuple #[.string (S x.1), .int .i64 0, .int .i64 0]
 | .error e => .tuple #[.string ⟨#[]⟩, .int .i64 (e.1 : Int), .int .i64 ((n - e.2 : Nat) : Int)]
def RvQ (s : ByteArray) (t : Nat) (w : World) (R : VR) (e : Ending) (w' : World) : Prop := e = .returned (reV s.size R) ∧ (∀ x r, R = .ok (x, r) → r = lf s t ∧ x.length ≤ 4096) ∧ (∀ k m, R = .error (k, m) → k ≠ 0) ∧ Below w.heap.size w w'
theorem own_five {W : World} {B : Nat} {v : Value} {x : Nd} (h : OwnN W B v [x]) : ∃ g c, v = .slice (some ⟨g, 0, none⟩) 1 c ∧ W.cell? ⟨g, 0, none⟩ = some (.int .i64 x.dep) ∧ W.cell? ⟨g, 1, none⟩ = some (.int .i64 x.cls) ∧ W.cell? ⟨g, 2, none⟩ = some (.bool x.made) ∧ W.cell? ⟨g, 3, none⟩ = some (.int .i64 x.tag) ∧ W.cell? ⟨g, 4, none⟩ = some (.string x.body) := by
 have h' : W.ownsRow B 153 5 v 1 (ndV x) := by
  have e : nv [x] = ndV x := by simp [nv]
  unfold OwnN at h
  rw [e] at h
  exact h
 obtain ⟨g, c, e, h1, h2, h3, h4⟩ := own_one h
 subst e
 have := World.ownsRow.cellAt h' 0 (by decide)
 exact ⟨g, c, rfl, by rw [this]; rfl, h1, h2, h3, h4⟩
theorem hd_ok : ∀ c, hd c = true → c ≠ 92 ∧ c ≠ 44 ∧ c ≠ 43 := by
 intro c h
 have key : ∀ n : Fin 256, hd (UInt8.ofNat n.val) = true → UInt8.ofNat n.val ≠ 92 ∧ UInt8.ofNat n.val ≠ 44 ∧ UInt8.ofNat n.val ≠ 43 := by decide +kernel
 have h2 := key ⟨c.toNat, c.toNat_lt⟩
 rw [UInt8.ofNat_toNat] at h2
 exact h2 h
theorem ext_snoc {s : ByteArray} {p k : Nat} (hp : p ≤ k) (hk : k < s.size) : (s.extract p (k + 1)).data.toList = (s.extract p k).data.toList ++ [s[k]] := by
 rw [ext_lf, ext_lf, show k + 1 - p = (k - p) + 1 from by omega, List.take_succ_eq_append_getElem (by rw [lf_len]; omega)]
 congr 2
 unfold lf
 rw [List.getElem_drop]
 have e : p + (k - p) = k := by omega
 simp only [e]
 rfl
set_option maxHeartbeats 16000000 in
theorem coded_any (s : ByteArray) (v t : Nat) (w : World) (h : Al s v t) (hv : v < s.size) (hc : s[v] = 35) (hs : s.size ≤ 4096) :
  Calls Tryz.prog 65 #[.string s, .int .i64 (v : Int), .int .i64 (t : Int)] w fun e w' => RvQ s t w (hxR (lf s (v + 1))) e w' := by
 have h1 : Al s (v + 1) t := h.step hv (by rw [hc]; decide) (by rw [hc]; decide)
 have hl := h1.le
 have h' : Hid (Al s (v + 1) t ∧ v + 1 ≤ t ∧ t ≤ s.size ∧ s.size ≤ 4096) := ⟨h1, hl.1, hl.2, hs⟩
 have v0 : (0 : Int) ≤ (v : Int) := Int.natCast_nonneg _
 have vb : (v : Int) ≤ 4096 := by omega
 have t0 : (0 : Int) ≤ (t : Int) := Int.natCast_nonneg _
 have tb' : (t : Int) ≤ 4096 := by omega
 obtain ⟨R, hR⟩ : ∃ R, hxR (lf s (v + 1)) = R := ⟨_, rfl⟩
 rw [hR]
 have hR' : Hid (hxR (lf s (v + 1)) = R) := hR
 have hH : ∀ c W, Hid (Calls Tryz.prog 95 #[.int .u8 (UInt8.toNat c : Int)] W fun e w' => e = .returned (.int .i64 (hxI c)) ∧ w' = W) := fun c W => hex_any c W
 clear h h1 hl hs hc hv hR
 go_enter Tryz.func65, Tryz.ntmps65
 go_wp2_with fail
 go_loop [9] (fun iv => ∃ k : Nat, iv = .int .i64 (k : Int) ∧ Hid (v + 1 ≤ k ∧ k ≤ t ∧ (lf s (v + 1)).takeWhile hd = (s.extract (v + 1) k).data.toList ++ (lf s k).takeWhile hd ∧ (lf s (v + 1)).dropWhile hd = (lf s k).dropWhile hd ∧ Al s k t)) (fun iv => t - (intOf iv).toNat)
 case atStart => exact ⟨v + 1, by go_num, Nat.le_refl _, h'.out.2.1, by rw [ext_lf]; simp, rfl, h'.out.1⟩
 case round =>
  obtain ⟨k, rfl, hQ⟩ := hrel
  have k0 : (0 : Int) ≤ (k : Int) := Int.natCast_nonneg _
  have hout : Hid ((k = t ∨ ∃ hs : k < s.size, hd s[k] = false) → (lf s k).takeWhile hd = [] ∧ (lf s k).dropWhile hd = lf s k) := fun h => by
   rcases h with h | ⟨hs, h⟩
   ·rcases (show En (lf s k) by rw [h]; exact h'.out.1.en) with e | ⟨c, r, e, hc⟩
    ·rw [e]; exact ⟨rfl, rfl⟩
    ·have hn : hd c = false := by rcases hc with rfl | rfl <;> decide
     rw [e, List.takeWhile_cons, List.dropWhile_cons, hn]
     exact ⟨rfl, rfl⟩
   ·rw [lf_cons hs, List.takeWhile_cons, List.dropWhile_cons, h]
    exact ⟨rfl, rfl⟩
  have hrest : (lf s k).takeWhile hd = [] ∧ (lf s k).dropWhile hd = lf s k → Hid (S ((lf s (v + 1)).takeWhile hd) = s.extract (v + 1) k ∧ (lf s (v + 1)).dropWhile hd = lf s k ∧ Al s k t ∧ v + 1 ≤ k ∧ k ≤ t) := fun h => by
   refine ⟨?_, by rw [hQ.out.2.2.2.1, h.2], hQ.out.2.2.2.2, hQ.out.1, hQ.out.2.1⟩
   rw [hQ.out.2.2.1, h.1, List.append_nil]
   rfl
  have kt : (k : Int) ≤ (t : Int) := by have := hQ.out.2.1; omega
  have vk : (v : Int) + 1 ≤ (k : Int) := by have := hQ.out.1; omega
  have ts : (t : Int) ≤ (s.size : Int) := by have := h'.out.2.2.1; omega
  by_cases hgo : ∃ hs : k < s.size, k < t ∧ hd s[k] = true
  ·obtain ⟨hks, hlt, hdk⟩ := hgo
   have k1 : (k : Int) < (t : Int) := Int.ofNat_lt.2 hlt
   have k2 : (k : Int) < (s.size : Int) := Int.ofNat_lt.2 hks
   have hHk := hH s[k] w
   have g : 0 ≤ hxI s[k] := (hxI_hd _).2 hdk
   obtain ⟨n1, n2, n3⟩ := hd_ok _ hdk
   have hfin : Hid (v + 1 ≤ k + 1 ∧ k + 1 ≤ t ∧ (lf s (v + 1)).takeWhile hd = (s.extract (v + 1) (k + 1)).data.toList ++ (lf s (k + 1)).takeWhile hd ∧ (lf s (v + 1)).dropWhile hd = (lf s (k + 1)).dropWhile hd ∧ Al s (k + 1) t) := by
    refine ⟨by have := hQ.out.1; omega, hlt, ?_, ?_, hQ.out.2.2.2.2.step hks (fun q => by rcases q with q | q <;> contradiction) n1⟩
    ·rw [hQ.out.2.2.1, tw_cons hd hks hdk, ext_snoc hQ.out.1 hks]
     simp
    ·rw [hQ.out.2.2.2.1, lf_cons hks, List.dropWhile_cons, hdk]
     rfl
   have hlt' : Hid (k < t) := hlt
   generalize hxI s[k] = z at *
   clear hQ hout hrest hdk n1 n2 n3
   go_wp2_with (go_at_call 95; refine hHk.out.mono ?_; rintro e w' ⟨rfl, hww⟩; obtain rfl := hww.symm; clear hww)
   go_round
   case rel => exact ⟨k + 1, by go_num, hfin⟩
   case measure => have := hlt'.out; simp [intOf]; omega
  ·
   by_cases hkl : k < t
   ·have hks : k < s.size := by have := h'.out.2.2.1; omega
    have hdf : hd s[k] = false := by
     cases hq : hd s[k] with
     | false => rfl
     | true => exact absurd ⟨hks, hkl, hq⟩ hgo
    have k1 : (k : Int) < (t : Int) := Int.ofNat_lt.2 hkl
    have k2 : (k : Int) < (s.size : Int) := Int.ofNat_lt.2 hks
    have hHk := hH s[k] w
    have g : ¬ 0 ≤ hxI s[k] := fun q => by have := (hxI_hd _).1 q; rw [hdf] at this; cases this
    have hR2 := hrest (hout.out (Or.inr ⟨hks, hdf⟩))
    generalize hxI s[k] = zz at *
    clear hQ hout hrest hgo hkl hdf
    obtain ⟨hE, hDr, hAk, hvk, hkt⟩ := hR2.out
    obtain ⟨ds, hds⟩ : ∃ ds, (lf s (v + 1)).takeWhile hd = ds := ⟨_, rfl⟩
    rw [hds] at hE
    have hRR : Hid ((match txE ds with | none => .error (56, (lf s (v + 1)).length + 1) | some x => if kO (sp (lf s k)) = 0 then .ok (x, sp (lf s k)) else .error (55, (sp (lf s k)).length)) = R) := by
     have h1 := hR'.out
     unfold hxR at h1
     rw [hds, hDr] at h1
     exact h1
    have hdl : ds.length ≤ 4096 := by rw [← hds]; have := tw_len hd (lf s (v + 1)); rw [lf_len] at this; have := h'.out.2.2.2; omega
    have hbad : Hid (∀ W, txE ds = none → Below w.heap.size w W → RvQ s t w R (.returned (.tuple #[.string ⟨#[]⟩, .int .i64 56, .int .i64 (v : Int)])) W) := fun W ht hb => by
     have h1 := hRR.out
     rw [ht] at h1
     dsimp only at h1
     have e : s.size - ((lf s (v + 1)).length + 1) = v := by
      rw [lf_len]
      have := h'.out.2.1
      have := h'.out.2.2.1
      omega
     subst h1
     refine ⟨?_, fun x r h => (by cases h), fun j m h => (by injection h with h; injection h with h1 h2; omega), hb⟩
     show _ = Ending.returned (.tuple #[.string ⟨#[]⟩, .int .i64 ((56 : Nat) : Int), .int .i64 ((s.size - ((lf s (v + 1)).length + 1) : Nat) : Int)])
     rw [e]
     rfl
    have hAk' : Hid (Al s k t) := hAk
    have hU : Hid (Calls Tryz.prog 96 #[.string (s.extract (v + 1) k)] w fun e w' => e = .returned (uhV (s.extract (v + 1) k).size (unhex ds 0)) ∧ Below w.heap.size w w') := by
     have h1 := rUnhex_any (S ds) w (by rw [S_size]; omega)
     rw [S_l, hE] at h1
     exact h1
    have k3 : (v : Int) + 1 ≤ (k : Int) := by omega
    have k4 : (k : Int) ≤ (s.size : Int) := by have := h'.out.2.2.1; omega
    have hdl' : Hid (ds.length ≤ 4096) := hdl
    obtain ⟨z, hz⟩ : ∃ z, (s.extract (v + 1) k).size = z := ⟨_, rfl⟩
    rw [hz] at hU
    clear hE hDr hds hdl hz hR2 hAk hR'
    cases hX : unhex ds 0 with
    | error p =>
     rw [hX] at hU
     have hU1 : Hid (Calls Tryz.prog 96 #[.string (s.extract (v + 1) k)] w fun e w' => e = .returned (.tuple #[.string ⟨#[]⟩, .int .i64 11, .int .i64 (p : Int)]) ∧ Below w.heap.size w w') := hU
     have hn : Hid (txE ds = none) := by unfold Hid txE; rw [hX]
     clear hU hX
     go_wp2_with (go_at_call 95; refine hHk.out.mono ?_; rintro e w' ⟨rfl, hww⟩; obtain rfl := hww.symm; clear hww)
     refine hU1.out.mono ?_
     rintro e w1 ⟨rfl, hb⟩
     have hf : Hid (RvQ s t w R (.returned (.tuple #[.string ⟨#[]⟩, .int .i64 56, .int .i64 (v : Int)])) w1) := hbad.out w1 hn.out hb
     clear hb hU1 hbad hRR hn
     go_wp2_with fail
     go_ret3
     exact hf.out
    | ok bs =>
     have hbl : bs.length ≤ 4096 := by have := unhex_len ds.length ds 0 bs (Nat.le_refl _) hX; have := hdl'.out; omega
     rw [hX] at hU
     have hU1 : Hid (Calls Tryz.prog 96 #[.string (s.extract (v + 1) k)] w fun e w' => e = .returned (.tuple #[.string (S bs), .int .i64 0, .int .i64 (z : Int)]) ∧ Below w.heap.size w w') := hU
     have hT : ∀ W, Hid (Calls Tryz.prog 97 #[.string (S bs)] W fun r w' => treeQ (S bs) W.heap.size r w' ∧ Below W.heap.size W w') := fun W => BrM.rtree_any (S bs) W (by rw [S_size]; omega)
     have hTx : Hid (txE ds = (match treeR (S bs) with | .error _ => none | .ok xs => one1 (S bs) xs)) := by unfold Hid txE; simp only [hX]; cases treeR (S bs) <;> rfl
     have hbz : Hid ((S bs).size ≤ 4096) := by unfold Hid; rw [S_size]; exact hbl
     clear hU hX hbl
     generalize S bs = sb at *
     go_wp2_with (go_at_call 95; refine hHk.out.mono ?_; rintro e w' ⟨rfl, hww⟩; obtain rfl := hww.symm; clear hww)
     refine hU1.out.mono ?_
     rintro e w1 ⟨rfl, hb⟩
     have hb' : Hid (Below w.heap.size w w1) := hb
     have hT1 := hT w1
     clear hb hU1 hT
     go_wp2_with fail
     refine hT1.out.mono ?_
     rintro e w2 ⟨hq, hb2⟩
     have hB : Hid (Below w.heap.size w w2) := hb'.out.trans (hb2.mono hb'.out.size)
     clear hb2 hT1 hb'
     rcases hq with ⟨xs, vv, hk, rfl, hown⟩ | ⟨f, hk, rfl⟩
     ·have hTx2 : Hid (txE ds = one1 sb xs) := by unfold Hid; rw [hTx.out, hk]
      by_cases h1 : xs.length = 1
      ·obtain ⟨x, rfl⟩ := List.length_eq_one_iff.1 h1
       obtain ⟨g, c, rfl, c0, c1, c2, c3, c4⟩ := own_five hown
       have hTx3 : Hid (txE ds = if txB x = true then some (sb.extract (x.1 + x.2.1.size) (x.1 + x.2.1.size + x.2.1.len)).data.toList else none) := hTx2.out
       have hnd : Hid ((ndOf sb x).made = x.2.1.made ∧ (ndOf sb x).cls = (x.2.1.cls : Int) ∧ (ndOf sb x).tag = (x.2.1.tag : Int) ∧ (x.2.1.made = false → (ndOf sb x).body = sb.extract (x.1 + x.2.1.size) (x.1 + x.2.1.size + x.2.1.len))) := ⟨rfl, rfl, rfl, fun h => by unfold ndOf; simp [h]⟩
       have hno : Hid (txB x = false → txE ds = none) := fun h => by rw [hTx3.out, if_neg (by simp [h])]
       have hyes : Hid (txB x = true → txE ds = some (ndOf sb x).body.data.toList ∧ (ndOf sb x).body.size ≤ 4096) := fun h => by
        have hm : x.2.1.made = false := by
         unfold txB at h
         simp at h
         exact h.1.1
        rw [hTx3.out, if_pos h, hnd.out.2.2.2 hm]
        refine ⟨rfl, ?_⟩
        have := hbz.out
        rw [ByteArray.size_extract]
        omega
       rw [hnd.out.1] at c2
       rw [hnd.out.2.1] at c1
       rw [hnd.out.2.2.1] at c3
       generalize (ndOf sb x).body = body at *
       generalize (ndOf sb x).dep = dep at *
       have hx : Hid (txB x = (!x.2.1.made && x.2.1.cls == 0 && (x.2.1.tag == 4 || x.2.1.tag == 12 || x.2.1.tag == 19 || x.2.1.tag == 22))) := rfl
       generalize x.2.1.made = md at *
       generalize x.2.1.cls = cl at *
       generalize x.2.1.tag = tg at *
       generalize txB x = tx at *
       clear hown hk hTx hTx2 h1 hTx3 hnd
       have hB2 : Hid (∀ cs, Below w.heap.size w (w2.alloc (.cells cs 153))) := fun cs => hB.out.alloc hB.out.size _
       cases md with
       | true =>
        have hn : Hid (txE ds = none) := hno.out (by rw [hx.out]; rfl)
        clear hno hyes hx
        have hf : Hid (RvQ s t w R (.returned (.tuple #[.string ⟨#[]⟩, .int .i64 56, .int .i64 (v : Int)])) (w2.alloc (.cells #[.int .i64 dep, .int .i64 (cl : Int), .bool true, .int .i64 (tg : Int), .string body] 153))) := hbad.out (w2.alloc (.cells #[.int .i64 dep, .int .i64 (cl : Int), .bool true, .int .i64 (tg : Int), .string body] 153)) hn.out (hB2.out _)
        clear hbad hRR hn hB2
        go_wp2_with fail
        go_ret3
        exact hf.out
       | false =>
        by_cases hc : cl = 0
        ·have gc : ((cl : Int) != 0) = false := by rw [hc]; rfl
         have hx2 : Hid (tx = (tg == 4 || tg == 12 || tg == 19 || tg == 22)) := by unfold Hid; rw [hx.out, hc]; rfl
         clear hx hc
         by_cases ht : tg = 4 ∨ tg = 12 ∨ tg = 19 ∨ tg = 22
         ·have hy : Hid (txE ds = some body.data.toList ∧ body.size ≤ 4096) := hyes.out (by rw [hx2.out]; rcases ht with h | h | h | h <;> simp [h])
          have hS : ∀ W, Hid (Calls Tryz.prog 36 #[.string s, .int .i64 (k : Int), .int .i64 (t : Int)] W fun e w' => RsQ s k t W e w') := fun W => rskip_any s k t W hAk'.out h'.out.2.2.2
          have hend : Hid (∀ W q, lf s q = sp (lf s k) → Al s q t → Below w.heap.size w W → (q = t → RvQ s t w R (.returned (.tuple #[.string body, .int .i64 0, .int .i64 0])) W) ∧ (q ≠ t → RvQ s t w R (.returned (.tuple #[.string ⟨#[]⟩, .int .i64 55, .int .i64 (q : Int)])) W)) := fun W q hq ha hb => by
           have h1 := hRR.out
           rw [hy.out.1] at h1
           dsimp only at h1
           rw [← hq] at h1
           constructor
           ·intro e
            rw [if_pos ((ha.done).1 e)] at h1
            subst h1
            refine ⟨?_, fun x r h => by injection h with h; injection h with h1 h2; exact ⟨by rw [← h2, e], by rw [← h1, size_l]; exact hy.out.2⟩, fun k m h => (by cases h), hb⟩
            show _ = Ending.returned (.tuple #[.string (S body.data.toList), .int .i64 0, .int .i64 0])
            rw [S_of]
           ·intro e
            rw [if_neg (fun q => e ((ha.done).2 q))] at h1
            subst h1
            refine ⟨?_, fun x r h => (by cases h), fun k m h => by injection h with h; injection h with h1 h2; omega, hb⟩
            show _ = Ending.returned (.tuple #[.string ⟨#[]⟩, .int .i64 ((55 : Nat) : Int), .int .i64 ((s.size - (lf s q).length : Nat) : Int)])
            have e2 : s.size - (lf s q).length = q := by
             rw [lf_len]
             have := ha.1
             omega
            rw [e2]
            rfl
          clear hno hyes hx2 hy hRR
          rcases ht with h | h | h | h
          ·have g4 : ((tg : Int) != 4) = false := by rw [h]; rfl
           clear h
           go_wp2_with fail
           refine (hS _).out.mono ?_
           rintro e w3 ⟨q, rfl, hq1, hq2, hq3, hww⟩
           obtain rfl := hww.symm
           have hbx := hB2.out #[.int .i64 dep, .int .i64 (cl : Int), .bool false, .int .i64 (tg : Int), .string body]
           have hE2 := hend.out _ q hq1 hq3 hbx
           have hq3' : Hid (Al s q t) := hq3
           by_cases he : q = t
           ·have gq : ((q : Int) != (t : Int)) = false := by rw [he]; simp
            have hf := hE2.1 he
            have hf' : Hid (RvQ s t w R (.returned (.tuple #[.string body, .int .i64 0, .int .i64 0])) (w2.alloc (.cells #[.int .i64 dep, .int .i64 (cl : Int), .bool false, .int .i64 (tg : Int), .string body] 153))) := hf
            clear hf hE2 hend hS he hq1 hq2 hq3 hbx
            go_wp2_with fail
            go_ret3
            exact hf'.out
           ·have gq : ((q : Int) != (t : Int)) = true := by simp; omega
            have hf := hE2.2 he
            have hf' : Hid (RvQ s t w R (.returned (.tuple #[.string ⟨#[]⟩, .int .i64 55, .int .i64 (q : Int)])) (w2.alloc (.cells #[.int .i64 dep, .int .i64 (cl : Int), .bool false, .int .i64 (tg : Int), .string body] 153))) := hf
            clear hf hE2 hend hS he hq1 hq2 hq3 hbx
            go_wp2_with fail
            go_ret3
            exact hf'.out
          ·have g4 : ((tg : Int) != 4) = true := by rw [h]; rfl
           have g12 : ((tg : Int) != 12) = false := by rw [h]; rfl
           clear h
           go_wp2_with fail
           refine (hS _).out.mono ?_
           rintro e w3 ⟨q, rfl, hq1, hq2, hq3, hww⟩
           obtain rfl := hww.symm
           have hbx := hB2.out #[.int .i64 dep, .int .i64 (cl : Int), .bool false, .int .i64 (tg : Int), .string body]
           have hE2 := hend.out _ q hq1 hq3 hbx
           have hq3' : Hid (Al s q t) := hq3
           by_cases he : q = t
           ·have gq : ((q : Int) != (t : Int)) = false := by rw [he]; simp
            have hf := hE2.1 he
            have hf' : Hid (RvQ s t w R (.returned (.tuple #[.string body, .int .i64 0, .int .i64 0])) (w2.alloc (.cells #[.int .i64 dep, .int .i64 (cl : Int), .bool false, .int .i64 (tg : Int), .string body] 153))) := hf
            clear hf hE2 hend hS he hq1 hq2 hq3 hbx
            go_wp2_with fail
            go_ret3
            exact hf'.out
           ·have gq : ((q : Int) != (t : Int)) = true := by simp; omega
            have hf := hE2.2 he
            have hf' : Hid (RvQ s t w R (.returned (.tuple #[.string ⟨#[]⟩, .int .i64 55, .int .i64 (q : Int)])) (w2.alloc (.cells #[.int .i64 dep, .int .i64 (cl : Int), .bool false, .int .i64 (tg : Int), .string body] 153))) := hf
            clear hf hE2 hend hS he hq1 hq2 hq3 hbx
            go_wp2_with fail
            go_ret3
            exact hf'.out
          ·have g4 : ((tg : Int) != 4) = true := by rw [h]; rfl
           have g12 : ((tg : Int) != 12) = true := by rw [h]; rfl
           have g19 : ((tg : Int) != 19) = false := by rw [h]; rfl
           clear h
           go_wp2_with fail
           refine (hS _).out.mono ?_
           rintro e w3 ⟨q, rfl, hq1, hq2, hq3, hww⟩
           obtain rfl := hww.symm
           have hbx := hB2.out #[.int .i64 dep, .int .i64 (cl : Int), .bool false, .int .i64 (tg : Int), .string body]
           have hE2 := hend.out _ q hq1 hq3 hbx
           have hq3' : Hid (Al s q t) := hq3
           by_cases he : q = t
           ·have gq : ((q : Int) != (t : Int)) = false := by rw [he]; simp
            have hf := hE2.1 he
            have hf' : Hid (RvQ s t w R (.returned (.tuple #[.string body, .int .i64 0, .int .i64 0])) (w2.alloc (.cells #[.int .i64 dep, .int .i64 (cl : Int), .bool false, .int .i64 (tg : Int), .string body] 153))) := hf
            clear hf hE2 hend hS he hq1 hq2 hq3 hbx
            go_wp2_with fail
            go_ret3
            exact hf'.out
           ·have gq : ((q : Int) != (t : Int)) = true := by simp; omega
            have hf := hE2.2 he
            have hf' : Hid (RvQ s t w R (.returned (.tuple #[.string ⟨#[]⟩, .int .i64 55, .int .i64 (q : Int)])) (w2.alloc (.cells #[.int .i64 dep, .int .i64 (cl : Int), .bool false, .int .i64 (tg : Int), .string body] 153))) := hf
            clear hf hE2 hend hS he hq1 hq2 hq3 hbx
            go_wp2_with fail
            go_ret3
            exact hf'.out
          ·have g4 : ((tg : Int) != 4) = true := by rw [h]; rfl
           have g12 : ((tg : Int) != 12) = true := by rw [h]; rfl
           have g19 : ((tg : Int) != 19) = true := by rw [h]; rfl
           have g22 : ((tg : Int) != 22) = false := by rw [h]; rfl
           clear h
           go_wp2_with fail
           refine (hS _).out.mono ?_
           rintro e w3 ⟨q, rfl, hq1, hq2, hq3, hww⟩
           obtain rfl := hww.symm
           have hbx := hB2.out #[.int .i64 dep, .int .i64 (cl : Int), .bool false, .int .i64 (tg : Int), .string body]
           have hE2 := hend.out _ q hq1 hq3 hbx
           have hq3' : Hid (Al s q t) := hq3
           by_cases he : q = t
           ·have gq : ((q : Int) != (t : Int)) = false := by rw [he]; simp
            have hf := hE2.1 he
            have hf' : Hid (RvQ s t w R (.returned (.tuple #[.string body, .int .i64 0, .int .i64 0])) (w2.alloc (.cells #[.int .i64 dep, .int .i64 (cl : Int), .bool false, .int .i64 (tg : Int), .string body] 153))) := hf
            clear hf hE2 hend hS he hq1 hq2 hq3 hbx
            go_wp2_with fail
            go_ret3
            exact hf'.out
           ·have gq : ((q : Int) != (t : Int)) = true := by simp; omega
            have hf := hE2.2 he
            have hf' : Hid (RvQ s t w R (.returned (.tuple #[.string ⟨#[]⟩, .int .i64 55, .int .i64 (q : Int)])) (w2.alloc (.cells #[.int .i64 dep, .int .i64 (cl : Int), .bool false, .int .i64 (tg : Int), .string body] 153))) := hf
            clear hf hE2 hend hS he hq1 hq2 hq3 hbx
            go_wp2_with fail
            go_ret3
            exact hf'.out
         ·have hn : Hid (txE ds = none) := hno.out (by rw [hx2.out]; simp; omega)
          have g4 : ((tg : Int) != 4) = true := by rw [bne_iff_ne]; omega
          have g12 : ((tg : Int) != 12) = true := by rw [bne_iff_ne]; omega
          have g19 : ((tg : Int) != 19) = true := by rw [bne_iff_ne]; omega
          have g22 : ((tg : Int) != 22) = true := by rw [bne_iff_ne]; omega
          clear hno hyes hx2 ht
          have hf : Hid (RvQ s t w R (.returned (.tuple #[.string ⟨#[]⟩, .int .i64 56, .int .i64 (v : Int)])) (w2.alloc (.cells #[.int .i64 dep, .int .i64 (cl : Int), .bool false, .int .i64 (tg : Int), .string body] 153))) := hbad.out (w2.alloc (.cells #[.int .i64 dep, .int .i64 (cl : Int), .bool false, .int .i64 (tg : Int), .string body] 153)) hn.out (hB2.out _)
          clear hbad hRR hn hB2
          go_wp2_with fail
          go_ret3
          exact hf.out
        ·have gc : ((cl : Int) != 0) = true := by simp; omega
         have hn : Hid (txE ds = none) := hno.out (by rw [hx.out]; simp [hc])
         clear hno hyes hx hc
         have hf : Hid (RvQ s t w R (.returned (.tuple #[.string ⟨#[]⟩, .int .i64 56, .int .i64 (v : Int)])) (w2.alloc (.cells #[.int .i64 dep, .int .i64 (cl : Int), .bool false, .int .i64 (tg : Int), .string body] 153))) := hbad.out (w2.alloc (.cells #[.int .i64 dep, .int .i64 (cl : Int), .bool false, .int .i64 (tg : Int), .string body] 153)) hn.out (hB2.out _)
         clear hbad hRR hn hB2
         go_wp2_with fail
         go_ret3
         exact hf.out
      ·have hn : Hid (txE ds = none) := by
        unfold Hid
        rw [hTx2.out]
        unfold one1
        split
        ·exact absurd rfl h1
        ·rfl
       have hln : Hid ((xs.map (ndOf sb)).length ≠ 1) := by unfold Hid; rw [List.length_map]; exact h1
       have hw : Hid (OwnN w2 w1.heap.size vv (xs.map (ndOf sb))) := hown
       obtain ⟨va, vn, vc, rfl, hvn⟩ : ∃ va vn vc, vv = .slice va vn vc ∧ vn = (xs.map (ndOf sb)).length := by
        rcases (show w2.ownsRow w1.heap.size 153 5 vv (xs.map (ndOf sb)).length (nv (xs.map (ndOf sb))) from hw.out).2 with ⟨rfl, h0⟩ | ⟨g, cap, cur, rfl, _⟩
        ·exact ⟨none, 0, 0, rfl, h0.symm⟩
        ·exact ⟨_, _, _, rfl, rfl⟩
       have gl : ((vn : Int) != 1) = true := by have := hln.out; simp; omega
       clear hown hk hTx hTx2 h1 hln hw hvn
       have hf : Hid (RvQ s t w R (.returned (.tuple #[.string ⟨#[]⟩, .int .i64 56, .int .i64 (v : Int)])) w2) := hbad.out w2 hn.out hB.out
       clear hbad hRR hn
       go_wp2_with fail
       go_ret3
       exact hf.out
     ·have hn : Hid (txE ds = none) := by unfold Hid; rw [hTx.out, hk]
      have hc := treeR_code _ _ hk
      have gf : ((f.1 : Int) != 0) = true := by simp; omega
      clear hk hc hTx
      generalize f.1 = f1 at *
      generalize f.2 = f2 at *
      have hf : Hid (RvQ s t w R (.returned (.tuple #[.string ⟨#[]⟩, .int .i64 56, .int .i64 (v : Int)])) w2) := hbad.out w2 hn.out hB.out
      clear hbad hRR hn
      go_wp2_with fail
      go_ret3
      exact hf.out
   ·have k1 : ¬ (k : Int) < (t : Int) := by omega
    have hR2 := hrest (hout.out (Or.inl (by have := hQ.out.2.1; omega)))
    clear hQ hout hrest hgo hkl
    obtain ⟨hE, hDr, hAk, hvk, hkt⟩ := hR2.out
    obtain ⟨ds, hds⟩ : ∃ ds, (lf s (v + 1)).takeWhile hd = ds := ⟨_, rfl⟩
    rw [hds] at hE
    have hRR : Hid ((match txE ds with | none => .error (56, (lf s (v + 1)).length + 1) | some x => if kO (sp (lf s k)) = 0 then .ok (x, sp (lf s k)) else .error (55, (sp (lf s k)).length)) = R) := by
     have h1 := hR'.out
     unfold hxR at h1
     rw [hds, hDr] at h1
     exact h1
    have hdl : ds.length ≤ 4096 := by rw [← hds]; have := tw_len hd (lf s (v + 1)); rw [lf_len] at this; have := h'.out.2.2.2; omega
    have hbad : Hid (∀ W, txE ds = none → Below w.heap.size w W → RvQ s t w R (.returned (.tuple #[.string ⟨#[]⟩, .int .i64 56, .int .i64 (v : Int)])) W) := fun W ht hb => by
     have h1 := hRR.out
     rw [ht] at h1
     dsimp only at h1
     have e : s.size - ((lf s (v + 1)).length + 1) = v := by
      rw [lf_len]
      have := h'.out.2.1
      have := h'.out.2.2.1
      omega
     subst h1
     refine ⟨?_, fun x r h => (by cases h), fun j m h => (by injection h with h; injection h with h1 h2; omega), hb⟩
     show _ = Ending.returned (.tuple #[.string ⟨#[]⟩, .int .i64 ((56 : Nat) : Int), .int .i64 ((s.size - ((lf s (v + 1)).length + 1) : Nat) : Int)])
     rw [e]
     rfl
    have hAk' : Hid (Al s k t) := hAk
    have hU : Hid (Calls Tryz.prog 96 #[.string (s.extract (v + 1) k)] w fun e w' => e = .returned (uhV (s.extract (v + 1) k).size (unhex ds 0)) ∧ Below w.heap.size w w') := by
     have h1 := rUnhex_any (S ds) w (by rw [S_size]; omega)
     rw [S_l, hE] at h1
     exact h1
    have k3 : (v : Int) + 1 ≤ (k : Int) := by omega
    have k4 : (k : Int) ≤ (s.size : Int) := by have := h'.out.2.2.1; omega
    have hdl' : Hid (ds.length ≤ 4096) := hdl
    obtain ⟨z, hz⟩ : ∃ z, (s.extract (v + 1) k).size = z := ⟨_, rfl⟩
    rw [hz] at hU
    clear hE hDr hds hdl hz hR2 hAk hR'
    cases hX : unhex ds 0 with
    | error p =>
     rw [hX] at hU
     have hU1 : Hid (Calls Tryz.prog 96 #[.string (s.extract (v + 1) k)] w fun e w' => e = .returned (.tuple #[.string ⟨#[]⟩, .int .i64 11, .int .i64 (p : Int)]) ∧ Below w.heap.size w w') := hU
     have hn : Hid (txE ds = none) := by unfold Hid txE; rw [hX]
     clear hU hX
     go_wp2_with fail
     refine hU1.out.mono ?_
     rintro e w1 ⟨rfl, hb⟩
     have hf : Hid (RvQ s t w R (.returned (.tuple #[.string ⟨#[]⟩, .int .i64 56, .int .i64 (v : Int)])) w1) := hbad.out w1 hn.out hb
     clear hb hU1 hbad hRR hn
     go_wp2_with fail
     go_ret3
     exact hf.out
    | ok bs =>
     have hbl : bs.length ≤ 4096 := by have := unhex_len ds.length ds 0 bs (Nat.le_refl _) hX; have := hdl'.out; omega
     rw [hX] at hU
     have hU1 : Hid (Calls Tryz.prog 96 #[.string (s.extract (v + 1) k)] w fun e w' => e = .returned (.tuple #[.string (S bs), .int .i64 0, .int .i64 (z : Int)]) ∧ Below w.heap.size w w') := hU
     have hT : ∀ W, Hid (Calls Tryz.prog 97 #[.string (S bs)] W fun r w' => treeQ (S bs) W.heap.size r w' ∧ Below W.heap.size W w') := fun W => BrM.rtree_any (S bs) W (by rw [S_size]; omega)
     have hTx : Hid (txE ds = (match treeR (S bs) with | .error _ => none | .ok xs => one1 (S bs) xs)) := by unfold Hid txE; simp only [hX]; cases treeR (S bs) <;> rfl
     have hbz : Hid ((S bs).size ≤ 4096) := by unfold Hid; rw [S_size]; exact hbl
     clear hU hX hbl
     generalize S bs = sb at *
     go_wp2_with fail
     refine hU1.out.mono ?_
     rintro e w1 ⟨rfl, hb⟩
     have hb' : Hid (Below w.heap.size w w1) := hb
     have hT1 := hT w1
     clear hb hU1 hT
     go_wp2_with fail
     refine hT1.out.mono ?_
     rintro e w2 ⟨hq, hb2⟩
     have hB : Hid (Below w.heap.size w w2) := hb'.out.trans (hb2.mono hb'.out.size)
     clear hb2 hT1 hb'
     rcases hq with ⟨xs, vv, hk, rfl, hown⟩ | ⟨f, hk, rfl⟩
     ·have hTx2 : Hid (txE ds = one1 sb xs) := by unfold Hid; rw [hTx.out, hk]
      by_cases h1 : xs.length = 1
      ·obtain ⟨x, rfl⟩ := List.length_eq_one_iff.1 h1
       obtain ⟨g, c, rfl, c0, c1, c2, c3, c4⟩ := own_five hown
       have hTx3 : Hid (txE ds = if txB x = true then some (sb.extract (x.1 + x.2.1.size) (x.1 + x.2.1.size + x.2.1.len)).data.toList else none) := hTx2.out
       have hnd : Hid ((ndOf sb x).made = x.2.1.made ∧ (ndOf sb x).cls = (x.2.1.cls : Int) ∧ (ndOf sb x).tag = (x.2.1.tag : Int) ∧ (x.2.1.made = false → (ndOf sb x).body = sb.extract (x.1 + x.2.1.size) (x.1 + x.2.1.size + x.2.1.len))) := ⟨rfl, rfl, rfl, fun h => by unfold ndOf; simp [h]⟩
       have hno : Hid (txB x = false → txE ds = none) := fun h => by rw [hTx3.out, if_neg (by simp [h])]
       have hyes : Hid (txB x = true → txE ds = some (ndOf sb x).body.data.toList ∧ (ndOf sb x).body.size ≤ 4096) := fun h => by
        have hm : x.2.1.made = false := by
         unfold txB at h
         simp at h
         exact h.1.1
        rw [hTx3.out, if_pos h, hnd.out.2.2.2 hm]
        refine ⟨rfl, ?_⟩
        have := hbz.out
        rw [ByteArray.size_extract]
        omega
       rw [hnd.out.1] at c2
       rw [hnd.out.2.1] at c1
       rw [hnd.out.2.2.1] at c3
       generalize (ndOf sb x).body = body at *
       generalize (ndOf sb x).dep = dep at *
       have hx : Hid (txB x = (!x.2.1.made && x.2.1.cls == 0 && (x.2.1.tag == 4 || x.2.1.tag == 12 || x.2.1.tag == 19 || x.2.1.tag == 22))) := rfl
       generalize x.2.1.made = md at *
       generalize x.2.1.cls = cl at *
       generalize x.2.1.tag = tg at *
       generalize txB x = tx at *
       clear hown hk hTx hTx2 h1 hTx3 hnd
       have hB2 : Hid (∀ cs, Below w.heap.size w (w2.alloc (.cells cs 153))) := fun cs => hB.out.alloc hB.out.size _
       cases md with
       | true =>
        have hn : Hid (txE ds = none) := hno.out (by rw [hx.out]; rfl)
        clear hno hyes hx
        have hf : Hid (RvQ s t w R (.returned (.tuple #[.string ⟨#[]⟩, .int .i64 56, .int .i64 (v : Int)])) (w2.alloc (.cells #[.int .i64 dep, .int .i64 (cl : Int), .bool true, .int .i64 (tg : Int), .string body] 153))) := hbad.out (w2.alloc (.cells #[.int .i64 dep, .int .i64 (cl : Int), .bool true, .int .i64 (tg : Int), .string body] 153)) hn.out (hB2.out _)
        clear hbad hRR hn hB2
        go_wp2_with fail
        go_ret3
        exact hf.out
       | false =>
        by_cases hc : cl = 0
        ·have gc : ((cl : Int) != 0) = false := by rw [hc]; rfl
         have hx2 : Hid (tx = (tg == 4 || tg == 12 || tg == 19 || tg == 22)) := by unfold Hid; rw [hx.out, hc]; rfl
         clear hx hc
         by_cases ht : tg = 4 ∨ tg = 12 ∨ tg = 19 ∨ tg = 22
         ·have hy : Hid (txE ds = some body.data.toList ∧ body.size ≤ 4096) := hyes.out (by rw [hx2.out]; rcases ht with h | h | h | h <;> simp [h])
          have hS : ∀ W, Hid (Calls Tryz.prog 36 #[.string s, .int .i64 (k : Int), .int .i64 (t : Int)] W fun e w' => RsQ s k t W e w') := fun W => rskip_any s k t W hAk'.out h'.out.2.2.2
          have hend : Hid (∀ W q, lf s q = sp (lf s k) → Al s q t → Below w.heap.size w W → (q = t → RvQ s t w R (.returned (.tuple #[.string body, .int .i64 0, .int .i64 0])) W) ∧ (q ≠ t → RvQ s t w R (.returned (.tuple #[.string ⟨#[]⟩, .int .i64 55, .int .i64 (q : Int)])) W)) := fun W q hq ha hb => by
           have h1 := hRR.out
           rw [hy.out.1] at h1
           dsimp only at h1
           rw [← hq] at h1
           constructor
           ·intro e
            rw [if_pos ((ha.done).1 e)] at h1
            subst h1
            refine ⟨?_, fun x r h => by injection h with h; injection h with h1 h2; exact ⟨by rw [← h2, e], by rw [← h1, size_l]; exact hy.out.2⟩, fun k m h => (by cases h), hb⟩
            show _ = Ending.returned (.tuple #[.string (S body.data.toList), .int .i64 0, .int .i64 0])
            rw [S_of]
           ·intro e
            rw [if_neg (fun q => e ((ha.done).2 q))] at h1
            subst h1
            refine ⟨?_, fun x r h => (by cases h), fun k m h => by injection h with h; injection h with h1 h2; omega, hb⟩
            show _ = Ending.returned (.tuple #[.string ⟨#[]⟩, .int .i64 ((55 : Nat) : Int), .int .i64 ((s.size - (lf s q).length : Nat) : Int)])
            have e2 : s.size - (lf s q).length = q := by
             rw [lf_len]
             have := ha.1
             omega
            rw [e2]
            rfl
          clear hno hyes hx2 hy hRR
          rcases ht with h | h | h | h
          ·have g4 : ((tg : Int) != 4) = false := by rw [h]; rfl
           clear h
           go_wp2_with fail
           refine (hS _).out.mono ?_
           rintro e w3 ⟨q, rfl, hq1, hq2, hq3, hww⟩
           obtain rfl := hww.symm
           have hbx := hB2.out #[.int .i64 dep, .int .i64 (cl : Int), .bool false, .int .i64 (tg : Int), .string body]
           have hE2 := hend.out _ q hq1 hq3 hbx
           have hq3' : Hid (Al s q t) := hq3
           by_cases he : q = t
           ·have gq : ((q : Int) != (t : Int)) = false := by rw [he]; simp
            have hf := hE2.1 he
            have hf' : Hid (RvQ s t w R (.returned (.tuple #[.string body, .int .i64 0, .int .i64 0])) (w2.alloc (.cells #[.int .i64 dep, .int .i64 (cl : Int), .bool false, .int .i64 (tg : Int), .string body] 153))) := hf
            clear hf hE2 hend hS he hq1 hq2 hq3 hbx
            go_wp2_with fail
            go_ret3
            exact hf'.out
           ·have gq : ((q : Int) != (t : Int)) = true := by simp; omega
            have hf := hE2.2 he
            have hf' : Hid (RvQ s t w R (.returned (.tuple #[.string ⟨#[]⟩, .int .i64 55, .int .i64 (q : Int)])) (w2.alloc (.cells #[.int .i64 dep, .int .i64 (cl : Int), .bool false, .int .i64 (tg : Int), .string body] 153))) := hf
            clear hf hE2 hend hS he hq1 hq2 hq3 hbx
            go_wp2_with fail
            go_ret3
            exact hf'.out
          ·have g4 : ((tg : Int) != 4) = true := by rw [h]; rfl
           have g12 : ((tg : Int) != 12) = false := by rw [h]; rfl
           clear h
           go_wp2_with fail
           refine (hS _).out.mono ?_
           rintro e w3 ⟨q, rfl, hq1, hq2, hq3, hww⟩
           obtain rfl := hww.symm
           have hbx := hB2.out #[.int .i64 dep, .int .i64 (cl : Int), .bool false, .int .i64 (tg : Int), .string body]
           have hE2 := hend.out _ q hq1 hq3 hbx
           have hq3' : Hid (Al s q t) := hq3
           by_cases he : q = t
           ·have gq : ((q : Int) != (t : Int)) = false := by rw [he]; simp
            have hf := hE2.1 he
            have hf' : Hid (RvQ s t w R (.returned (.tuple #[.string body, .int .i64 0, .int .i64 0])) (w2.alloc (.cells #[.int .i64 dep, .int .i64 (cl : Int), .bool false, .int .i64 (tg : Int), .string body] 153))) := hf
            clear hf hE2 hend hS he hq1 hq2 hq3 hbx
            go_wp2_with fail
            go_ret3
            exact hf'.out
           ·have gq : ((q : Int) != (t : Int)) = true := by simp; omega
            have hf := hE2.2 he
            have hf' : Hid (RvQ s t w R (.returned (.tuple #[.string ⟨#[]⟩, .int .i64 55, .int .i64 (q : Int)])) (w2.alloc (.cells #[.int .i64 dep, .int .i64 (cl : Int), .bool false, .int .i64 (tg : Int), .string body] 153))) := hf
            clear hf hE2 hend hS he hq1 hq2 hq3 hbx
            go_wp2_with fail
            go_ret3
            exact hf'.out
          ·have g4 : ((tg : Int) != 4) = true := by rw [h]; rfl
           have g12 : ((tg : Int) != 12) = true := by rw [h]; rfl
           have g19 : ((tg : Int) != 19) = false := by rw [h]; rfl
           clear h
           go_wp2_with fail
           refine (hS _).out.mono ?_
           rintro e w3 ⟨q, rfl, hq1, hq2, hq3, hww⟩
           obtain rfl := hww.symm
           have hbx := hB2.out #[.int .i64 dep, .int .i64 (cl : Int), .bool false, .int .i64 (tg : Int), .string body]
           have hE2 := hend.out _ q hq1 hq3 hbx
           have hq3' : Hid (Al s q t) := hq3
           by_cases he : q = t
           ·have gq : ((q : Int) != (t : Int)) = false := by rw [he]; simp
            have hf := hE2.1 he
            have hf' : Hid (RvQ s t w R (.returned (.tuple #[.string body, .int .i64 0, .int .i64 0])) (w2.alloc (.cells #[.int .i64 dep, .int .i64 (cl : Int), .bool false, .int .i64 (tg : Int), .string body] 153))) := hf
            clear hf hE2 hend hS he hq1 hq2 hq3 hbx
            go_wp2_with fail
            go_ret3
            exact hf'.out
           ·have gq : ((q : Int) != (t : Int)) = true := by simp; omega
            have hf := hE2.2 he
            have hf' : Hid (RvQ s t w R (.returned (.tuple #[.string ⟨#[]⟩, .int .i64 55, .int .i64 (q : Int)])) (w2.alloc (.cells #[.int .i64 dep, .int .i64 (cl : Int), .bool false, .int .i64 (tg : Int), .string body] 153))) := hf
            clear hf hE2 hend hS he hq1 hq2 hq3 hbx
            go_wp2_with fail
            go_ret3
            exact hf'.out
          ·have g4 : ((tg : Int) != 4) = true := by rw [h]; rfl
           have g12 : ((tg : Int) != 12) = true := by rw [h]; rfl
           have g19 : ((tg : Int) != 19) = true := by rw [h]; rfl
           have g22 : ((tg : Int) != 22) = false := by rw [h]; rfl
           clear h
           go_wp2_with fail
           refine (hS _).out.mono ?_
           rintro e w3 ⟨q, rfl, hq1, hq2, hq3, hww⟩
           obtain rfl := hww.symm
           have hbx := hB2.out #[.int .i64 dep, .int .i64 (cl : Int), .bool false, .int .i64 (tg : Int), .string body]
           have hE2 := hend.out _ q hq1 hq3 hbx
           have hq3' : Hid (Al s q t) := hq3
           by_cases he : q = t
           ·have gq : ((q : Int) != (t : Int)) = false := by rw [he]; simp
            have hf := hE2.1 he
            have hf' : Hid (RvQ s t w R (.returned (.tuple #[.string body, .int .i64 0, .int .i64 0])) (w2.alloc (.cells #[.int .i64 dep, .int .i64 (cl : Int), .bool false, .int .i64 (tg : Int), .string body] 153))) := hf
            clear hf hE2 hend hS he hq1 hq2 hq3 hbx
            go_wp2_with fail
            go_ret3
            exact hf'.out
           ·have gq : ((q : Int) != (t : Int)) = true := by simp; omega
            have hf := hE2.2 he
            have hf' : Hid (RvQ s t w R (.returned (.tuple #[.string ⟨#[]⟩, .int .i64 55, .int .i64 (q : Int)])) (w2.alloc (.cells #[.int .i64 dep, .int .i64 (cl : Int), .bool false, .int .i64 (tg : Int), .string body] 153))) := hf
            clear hf hE2 hend hS he hq1 hq2 hq3 hbx
            go_wp2_with fail
            go_ret3
            exact hf'.out
         ·have hn : Hid (txE ds = none) := hno.out (by rw [hx2.out]; simp; omega)
          have g4 : ((tg : Int) != 4) = true := by rw [bne_iff_ne]; omega
          have g12 : ((tg : Int) != 12) = true := by rw [bne_iff_ne]; omega
          have g19 : ((tg : Int) != 19) = true := by rw [bne_iff_ne]; omega
          have g22 : ((tg : Int) != 22) = true := by rw [bne_iff_ne]; omega
          clear hno hyes hx2 ht
          have hf : Hid (RvQ s t w R (.returned (.tuple #[.string ⟨#[]⟩, .int .i64 56, .int .i64 (v : Int)])) (w2.alloc (.cells #[.int .i64 dep, .int .i64 (cl : Int), .bool false, .int .i64 (tg : Int), .string body] 153))) := hbad.out (w2.alloc (.cells #[.int .i64 dep, .int .i64 (cl : Int), .bool false, .int .i64 (tg : Int), .string body] 153)) hn.out (hB2.out _)
          clear hbad hRR hn hB2
          go_wp2_with fail
          go_ret3
          exact hf.out
        ·have gc : ((cl : Int) != 0) = true := by simp; omega
         have hn : Hid (txE ds = none) := hno.out (by rw [hx.out]; simp [hc])
         clear hno hyes hx hc
         have hf : Hid (RvQ s t w R (.returned (.tuple #[.string ⟨#[]⟩, .int .i64 56, .int .i64 (v : Int)])) (w2.alloc (.cells #[.int .i64 dep, .int .i64 (cl : Int), .bool false, .int .i64 (tg : Int), .string body] 153))) := hbad.out (w2.alloc (.cells #[.int .i64 dep, .int .i64 (cl : Int), .bool false, .int .i64 (tg : Int), .string body] 153)) hn.out (hB2.out _)
         clear hbad hRR hn hB2
         go_wp2_with fail
         go_ret3
         exact hf.out
      ·have hn : Hid (txE ds = none) := by
        unfold Hid
        rw [hTx2.out]
        unfold one1
        split
        ·exact absurd rfl h1
        ·rfl
       have hln : Hid ((xs.map (ndOf sb)).length ≠ 1) := by unfold Hid; rw [List.length_map]; exact h1
       have hw : Hid (OwnN w2 w1.heap.size vv (xs.map (ndOf sb))) := hown
       obtain ⟨va, vn, vc, rfl, hvn⟩ : ∃ va vn vc, vv = .slice va vn vc ∧ vn = (xs.map (ndOf sb)).length := by
        rcases (show w2.ownsRow w1.heap.size 153 5 vv (xs.map (ndOf sb)).length (nv (xs.map (ndOf sb))) from hw.out).2 with ⟨rfl, h0⟩ | ⟨g, cap, cur, rfl, _⟩
        ·exact ⟨none, 0, 0, rfl, h0.symm⟩
        ·exact ⟨_, _, _, rfl, rfl⟩
       have gl : ((vn : Int) != 1) = true := by have := hln.out; simp; omega
       clear hown hk hTx hTx2 h1 hln hw hvn
       have hf : Hid (RvQ s t w R (.returned (.tuple #[.string ⟨#[]⟩, .int .i64 56, .int .i64 (v : Int)])) w2) := hbad.out w2 hn.out hB.out
       clear hbad hRR hn
       go_wp2_with fail
       go_ret3
       exact hf.out
     ·have hn : Hid (txE ds = none) := by unfold Hid; rw [hTx.out, hk]
      have hc := treeR_code _ _ hk
      have gf : ((f.1 : Int) != 0) = true := by simp; omega
      clear hk hc hTx
      generalize f.1 = f1 at *
      generalize f.2 = f2 at *
      have hf : Hid (RvQ s t w R (.returned (.tuple #[.string ⟨#[]⟩, .int .i64 56, .int .i64 (v : Int)])) w2) := hbad.out w2 hn.out hB.out
      clear hbad hRR hn
      go_wp2_with fail
      go_ret3
      exact hf.out
end Pa
end Go.Proofs.YtkknenmpdimdbaaGreatDoor
