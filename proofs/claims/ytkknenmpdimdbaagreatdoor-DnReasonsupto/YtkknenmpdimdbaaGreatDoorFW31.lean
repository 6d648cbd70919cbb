import Derived.Test.YtkknenmpdimdbaaGreatDoorBtT1
import Derived.Test.YtkknenmpdimdbaaGreatDoorFW26
import Derived.Test.YtkknenmpdimdbaaGreatDoorFW20
import Derived.Test.YtkknenmpdimdbaaGreatDoorFW21
import Derived.Test.YtkknenmpdimdbaaGreatDoorFW12
namespace Go.Proofs.YtkknenmpdimdbaaGreatDoor
open Go.RowKit Go.Shelf
open BerMath (Hd HR num hAt wAt El TR elEnd endE one andThen kids)
set_option linter.unusedVariables false
def treeQ (s : ByteArray) (B : Nat) (r : Ending) (w' : World) : Prop :=
 (∃ xs v, treeR s = .ok xs ∧ r = .returned (.tuple #[v, .int .i64 0, .int .i64 0]) ∧ OwnN w' B v (xs.map (ndOf s))) ∨
 (∃ f : Nat × Nat, treeR s = .error f ∧ r = .returned (.tuple #[.slice none 0 0, .int .i64 (f.1 : Int), .int .i64 (f.2 : Int)]))
theorem enter_tree1 : ∀ args W, (callFunc 172 args).run Tryz.prog W = .ok (.enter 172 args) W := enters_of Tryz.func172 (by kernel_rfl) rfl
theorem kids_code (b : List UInt8) : ∀ (n e q d : Nat) (f : Nat × Nat), (kids b n e q d).2 = some f → 20 ≤ f.1 ∧ f.1 ≤ 27 := by
 intro n
 induction n with
 | zero => intro e q d f h; cases h
 | succ n ih =>
  intro e q d f h
  by_cases hq : e ≤ q
  ·rw [BerMath.kids_end _ _ _ _ _ hq] at h; cases h
  rw [BerMath.kids_succ _ _ _ _ _ hq] at h
  have ho : ∀ g, (one b (kids b n) 26 e q d).2 = some g → 20 ≤ g.1 ∧ g.1 ≤ 27 := fun g hg => by
   by_cases hd : 64 < d
   ·rw [BerMath.one_deep _ _ _ _ _ _ hd] at hg; injection hg with hg; subst hg; exact ⟨by show 20 ≤ 25; decide, by show 25 ≤ 27; decide⟩
   cases hw : wAt b q e with
   | ok x =>
    by_cases hm : x.made = true
    ·rw [BerMath.one_made _ _ _ _ _ _ x hd hw hm] at hg; exact ih _ _ _ _ hg
    ·rw [BerMath.one_leaf _ _ _ _ _ _ x hd hw hm] at hg; cases hg
   | error o =>
    cases o with
    | some f' =>
     rw [BerMath.one_er _ _ _ _ _ _ f' hd hw] at hg
     injection hg with hg
     subst hg
     have := BerMath.wAt_er b q e f'.1 f'.2 hw
     omega
    | none => rw [BerMath.one_miss _ _ _ _ _ _ hd hw] at hg; injection hg with hg; subst hg; exact ⟨by show 20 ≤ 26; decide, by show 26 ≤ 27; decide⟩
  cases h2 : (one b (kids b n) 26 e q d).2 with
  | some g => rw [andThen_some h2] at h; injection h with h; subst h; exact ho _ h2
  | none => rw [andThen_none h2] at h; exact ih _ _ _ _ h
theorem tr_code (s : ByteArray) (f : Nat × Nat) (h : (tr s).2 = some f) : 20 ≤ f.1 ∧ f.1 ≤ 27 := by
 unfold tr at h
 cases hw : wAt s.data.toList 0 s.size with
 | ok x =>
  by_cases hm : x.made = true
  ·rw [BerMath.one_made _ _ _ _ _ _ x (by decide) hw hm] at h; exact kids_code _ _ _ _ _ _ h
  ·rw [BerMath.one_leaf _ _ _ _ _ _ x (by decide) hw hm] at h; cases h
 | error o =>
  cases o with
  | some f' =>
   rw [BerMath.one_er _ _ _ _ _ _ f' (by decide) hw] at h
   injection h with h
   subst h
   have := BerMath.wAt_er _ _ _ f'.1 f'.2 hw
   omega
  | none => rw [BerMath.one_miss _ _ _ _ _ _ (by decide) hw] at h; injection h with h; subst h; exact ⟨by show 20 ≤ 20; decide, by show 20 ≤ 27; decide⟩
theorem treeR_code (s : ByteArray) (f : Nat × Nat) (h : treeR s = .error f) : 20 ≤ f.1 ∧ f.1 ≤ 27 := by
 unfold treeR at h
 cases h2 : (tr s).2 with
 | some g => rw [h2] at h; injection h with h; subst h; exact tr_code s _ h2
 | none =>
  rw [h2] at h
  dsimp only at h
  split at h
  ·injection h with h; subst h; exact ⟨by show 20 ≤ 27; decide, by show 27 ≤ 27; decide⟩
  ·cases h
set_option maxRecDepth 100000 in
set_option maxHeartbeats 2000000 in
theorem tree_any (s : ByteArray) (w : World) (hm : s.size ≤ 281474976710656) : Calls Tryz.prog 165 #[.string s] w fun r w' => treeQ s w.heap.size r w' ∧ Below w.heap.size w w' := by
 have hmf : ∀ (fn : Fn) (first cap : Array Value) (w : World), (Instr.makeFunc fn first cap).run Tryz.prog w = .ok (.func fn first cap) w := fun _ _ _ _ => rfl
 obtain ⟨W3, hW3⟩ : ∃ W3, W3 = (w.alloc (.cells #[.string s] 9)).alloc (.cells #[.slice none 0 0] 148) := ⟨_, rfl⟩
 have hs3 : W3.heap.size = w.heap.size + 1 + 1 := by rw [hW3]; simp
 have hB3 : Below w.heap.size w W3 := by
  rw [hW3]
  exact ((Below.refl _ _).alloc (Nat.le_refl _) _).alloc (by simp) _
 have bl3 : Boxed W3 (w.heap.size + 1) 148 (.slice none 0 0) := by
  rw [hW3]
  have := Boxed.new (w.alloc (.cells #[.string s] 9)) 148 (.slice none 0 0)
  rwa [World.size_alloc] at this
 have bb3 : Boxed W3 w.heap.size 9 (.string s) := by rw [hW3]; exact (Boxed.new w _ _).alloc _
 obtain ⟨W4, hW4⟩ : ∃ W4, W4 = W3.alloc (.cells #[.int .i64 0, .int .i64 0] 238) := ⟨_, rfl⟩
 have hs4 : W4.heap.size = w.heap.size + 1 + 1 + 1 := by rw [hW4]; simp [hs3]
 have hB4 : Below W3.heap.size W3 W4 := by rw [hW4]; exact (Below.refl _ _).alloc (Nat.le_refl _) _
 have bl4 : Boxed W4 (w.heap.size + 1) 148 (.slice none 0 0) := by rw [hW4]; exact bl3.alloc _
 have bb4 : Boxed W4 w.heap.size 9 (.string s) := by rw [hW4]; exact bb3.alloc _
 have hcl := tree1_any s hm w.heap.size (w.heap.size + 1) W4 bb4 bl4
 have hcaught := caught_all 172 #[.pointer (some ⟨w.heap.size, 0, none⟩), .pointer (some ⟨w.heap.size + 1, 0, none⟩)] W3 (tree1Q s (w.heap.size + 1) W4) enter_tree1 (by
  rw [← hW4]
  refine hcl.mono ?_
  intro r w1 hq
  refine ⟨hq, hq.1 _ (by omega) (by omega), ?_, ?_⟩
  ·have := hq.2.1.size; omega
  ·rcases hq.2.2 with ⟨l, v, _, hr, _⟩ | ⟨f, _, hr⟩
   ·rw [hr]; exact ⟨0, 0, Or.inl ⟨rfl, rfl, rfl⟩⟩
   ·rw [hr]; exact ⟨_, _, Or.inr rfl⟩)
 have hres : Hid (∀ (r : Ending) (w' : World), (∃ (r1 : Ending) (w1 : World) (c q : Int), tree1Q s (w.heap.size + 1) W4 r1 w1 ∧ Read r1 c q ∧ r = .returned (fltV c q) ∧ Below W3.heap.size w1 w' ∧ ∀ b, b < w1.heap.size → b ≠ W3.heap.size → w'.heap[b]? = w1.heap[b]?) → ∃ (c q : Int), r = .returned (fltV c q) ∧ Below w.heap.size w w' ∧ w.heap.size + 1 + 1 ≤ w'.heap.size ∧ ((c == 0) = true ∧ (∃ l v, treeR s = .ok l ∧ w'.cell? ⟨w.heap.size + 1, 0, none⟩ = some v ∧ OwnN w' w.heap.size v (l.map (ndOf s))) ∨ (c == 0) = false ∧ ∃ f : Nat × Nat, treeR s = .error f ∧ c = (f.1 : Int) ∧ q = (f.2 : Int))) := by
  rintro r w' ⟨r1, w1, c, q, hq, hrd, rfl, hbw, hall⟩
  have hsz := hbw.size
  have hsz1 := hq.2.1.size
  have hBw : Below w.heap.size w w' := hB3.trans (((hB4.mono (by omega)).trans (hq.2.1.mono (by omega))).trans (hbw.mono (by omega)))
  refine ⟨c, q, rfl, hBw, by omega, ?_⟩
  rcases hq.2.2 with ⟨l, v, hk, hr, hcs, hown⟩ | ⟨f, hk, hr⟩
  ·rw [hr] at hrd
   obtain ⟨rfl, rfl⟩ := read_back hrd
   refine Or.inl ⟨rfl, l, v, hk, ?_, ?_⟩
   ·rw [hbw.cell (by show w.heap.size + 1 < _; omega)]; exact hcs
   ·exact ownN_base (ownN_block hown (fun g hg hg2 _ => hall g hg2 (by omega))) (by omega)
  ·rw [hr] at hrd
   obtain ⟨rfl, rfl⟩ := read_gave hrd
   refine Or.inr ⟨?_, f, hk, rfl, rfl⟩
   have := treeR_code _ _ hk
   rw [beq_eq_false_iff_ne]
   omega
 clear hcl hB4 hs4 bl3 bb3 bl4 bb4
 go_enter Tryz.func165, Tryz.ntmps165
 go_wp2_with fail
 rw [← hW3]
 refine hcaught.mono ?_
 intro r w' hh
 obtain ⟨c, q, rfl, hBw, hsz, hcase⟩ := hres.out r w' hh
 clear hh hres hcaught hW3 hW4 hs3 hB3
 have n1 : w.heap.size + 1 < w'.heap.size := by omega
 rcases hcase with ⟨hc0, l, v, hk, hcv, hown⟩ | ⟨hc0, f, hk, rfl, rfl⟩
 ·have hk' : Hid (treeR s = .ok l) := hk
  clear hk
  go_wp2_with fail
  refine bodyPost_ret_by (v := .tuple #[v, .int .i64 0, .int .i64 0]) (by simp [results, Tryz.results165]) rfl ⟨Or.inl ⟨l, v, hk'.out, rfl, World.ownsRow.alloc hown _⟩, hBw.alloc (by omega) _⟩
 ·have hk' : Hid (treeR s = .error f) := hk
  clear hk
  go_wp2_with fail
  go_region
  all_goals (try go_wp2)
  refine bodyPost_ret_by (v := .tuple #[.slice none 0 0, .int .i64 (f.1 : Int), .int .i64 (f.2 : Int)]) (by simp [results, Tryz.results165]) rfl ⟨Or.inr ⟨f, hk'.out, rfl⟩, Below.drew (hBw.alloc (by omega) _)⟩
end Go.Proofs.YtkknenmpdimdbaaGreatDoor

namespace Go.Proofs.YtkknenmpdimdbaaGreatDoor
namespace Pa
open TextMath (fold lo normal check wo unhex)
open Ke (tyOk tyC utf PR)
open BerMath (El TR)
set_option linter.unusedVariables false
set_option linter.unusedSimpArgs false
def txB (x : El) : Bool := !x.2.1.made && x.2.1.cls == 0 && (x.2.1.tag == 4 || x.2.1.tag == 12 || x.2.1.tag == 19 || x.2.1.tag == 22)
def one1 (s : ByteArray) : List El → Option (List UInt8)
 | [x] => if txB x = true then some (s.extract (x.1 + x.2.1.size) (x.1 + x.2.1.size + x.2.1.len)).data.toList else none
 | _ => none
def txE (ds : List UInt8) : Option (List UInt8) :=
 match unhex ds 0 with
 | .error _ => none
 | .ok bs => match treeR (S bs) with
  | .error _ => none
  | .ok xs => one1 (S bs) xs
def hxR (r : List UInt8) : VR :=
 match txE (r.takeWhile hd) with
 | none => .error (56, r.length + 1)
 | some v => if kO (sp (r.dropWhile hd)) = 0 then .ok (v, sp (r.dropWhile hd)) else .error (55, (sp (r.dropWhile hd)).length)
def hxO (r : List UInt8) : Option VR := some (hxR r)
theorem one1_len {s : ByteArray} {xs : List El} {v : List UInt8} (h : one1 s xs = some v) : v.length ≤ s.size := by
 unfold one1 at h
 split at h
 ·split at h
  ·injection h with h
   subst h
   simp
   omega
  ·cases h
 ·cases h
theorem unhex_len : ∀ (n : Nat) (l : List UInt8) (k : Nat) (o : List UInt8), l.length ≤ n → unhex l k = .ok o → 2 * o.length = l.length
 | _, [], _, _, _, h => by
  unfold unhex at h
  injection h with h
  subst h
  rfl
 | _, [a], _, _, _, h => by
  unfold unhex at h
  split at h <;> cases h
 | 0, a :: b :: t, _, _, hn, _ => by simp at hn
 | n + 1, a :: b :: t, k, o, hn, h => by
  unfold unhex at h
  split at h
  ·cases h
  ·cases h
  ·split at h
   ·rename_i o' ho
    injection h with h
    subst h
    have := unhex_len n t (k + 2) o' (by simp at hn; omega) ho
    simp
    omega
   ·cases h
theorem txE_len {ds v : List UInt8} (h : txE ds = some v) : v.length ≤ ds.length := by
 unfold txE at h
 split at h
 ·cases h
 ·rename_i bs hb
  split at h
  ·cases h
  ·have h1 := one1_len h
   have h2 := unhex_len ds.length ds 0 bs (Nat.le_refl _) hb
   rw [S_size] at h1
   omega
theorem pv_total {l : List UInt8} : ∃ V, pv hxO l = some V := by
 unfold pv hxO
 split <;> exact ⟨_, rfl⟩
theorem prt_total : ∀ (n num : Nat) (ps : List PR) (l : List UInt8), 9 ≤ n + ps.length → ps.length ≤ 8 → ∃ R, prt hxO n num ps l = some R
 | 0, _, ps, _, h, h2 => by omega
 | n + 1, num, ps, l, h, h2 => by
  unfold prt
  by_cases hw : num = 64 ∨ ps.length = 8
  ·rw [if_pos hw]; exact ⟨_, rfl⟩
  ·rw [if_neg hw]
   split
   ·exact ⟨_, rfl⟩
   ·rename_i x hx
    obtain ⟨V, hV⟩ := pv_total (l := x.2)
    rw [hV]
    cases V with
    | error e => exact ⟨_, rfl⟩
    | ok y =>
     dsimp only
     split
     ·exact prt_total n num _ _ (by rw [List.length_append, List.length_singleton]; omega) (by rw [List.length_append, List.length_singleton]; have : ps.length ≠ 8 := fun e => hw (Or.inr e); omega)
     ·exact ⟨_, rfl⟩
theorem nmP_total : ∀ (n : Nat) (D : List (List PR)) (l : List UInt8), 65 ≤ n + D.length → D.length ≤ 64 → ∃ R, nmP hxO n D l = some R
 | 0, D, _, h, h2 => by omega
 | n + 1, D, l, h, h2 => by
  unfold nmP
  obtain ⟨P, hP⟩ := prt_total 9 D.length [] l (by simp) (by simp)
  rw [hP]
  cases P with
  | error e => exact ⟨_, rfl⟩
  | ok x =>
   dsimp only
   split
   ·refine nmP_total n _ _ (by rw [List.length_append, List.length_singleton]; omega) ?_
    have : D.length ≠ 64 := fun e => by
     unfold prt at hP
     rw [e, if_pos (Or.inl rfl)] at hP
     cases hP
    rw [List.length_append, List.length_singleton]
    omega
   ·exact ⟨_, rfl⟩
theorem prs_total (s : List UInt8) : ∃ R, prs hxO s = some R := by
 unfold prs
 split
 ·exact ⟨_, rfl⟩
 ·split
  ·exact ⟨_, rfl⟩
  ·split
   ·exact ⟨_, rfl⟩
   ·exact nmP_total 65 [] s (by simp) (by simp)
end Pa
end Go.Proofs.YtkknenmpdimdbaaGreatDoor

namespace Go.Proofs.YtkknenmpdimdbaaGreatDoor
namespace Pa
open Go.RowKit
open TextMath (fold lo normal check wo unhex)
open Ke (refV)
open BerMath (El TR)
set_option linter.unusedVariables false
set_option linter.unusedSimpArgs false
set_option maxRecDepth 100000
def TxQ (o : Option (List UInt8)) (w : World) (e : Ending) (w' : World) : Prop :=
 e = .returned (.tuple #[.string (S (o.getD [])), .bool o.isSome]) ∧ Below w.heap.size w w'
theorem TxQ.drew {o : Option (List UInt8)} {w : World} {e : Ending} {w' : World} (h : TxQ o w e w') (n : Nat) : TxQ o w e (w'.drewN n) := ⟨h.1, h.2.trans (Du.drewN_below _ _ _)⟩
theorem own_one {W : World} {B : Nat} {v : Value} {x : Nd} (h : OwnN W B v [x]) : ∃ g c, v = .slice (some ⟨g, 0, none⟩) 1 c ∧ W.cell? ⟨g, 1, none⟩ = some (.int .i64 x.cls) ∧ W.cell? ⟨g, 2, none⟩ = some (.bool x.made) ∧ W.cell? ⟨g, 3, none⟩ = some (.int .i64 x.tag) ∧ W.cell? ⟨g, 4, none⟩ = some (.string x.body) := by
 have h' : W.ownsRow B 153 5 v 1 (ndV x) := by
  have e : nv [x] = ndV x := by simp [nv]
  unfold OwnN at h
  rw [e] at h
  exact h
 rcases h'.2 with ⟨_, h0⟩ | ⟨g, cap, cur, rfl, _⟩
 ·cases h0
 ·refine ⟨g, cap, rfl, ?_, ?_, ?_, ?_⟩
  ·have := World.ownsRow.cellAt h' 1 (by decide); rw [this]; rfl
  ·have := World.ownsRow.cellAt h' 2 (by decide); rw [this]; rfl
  ·have := World.ownsRow.cellAt h' 3 (by decide); rw [this]; rfl
  ·have := World.ownsRow.cellAt h' 4 (by decide); rw [this]; rfl
set_option maxHeartbeats 8000000 in
theorem textOf_any (ds : List UInt8) (w : World) (hl : ds.length ≤ 4096) :
  Calls Tryz.prog 152 #[.string (S ds)] w fun e w' => TxQ (txE ds) w e w' := by
 have hU : Hid (Calls Tryz.prog 151 #[.string (S ds)] w fun e w' => e = .returned (uhV (S ds).size (unhex ds 0)) ∧ Below w.heap.size w w') := by
  have h1 := unhex_any (S ds) w (by rw [S_size]; omega)
  rw [S_l] at h1
  exact h1
 obtain ⟨o, ho⟩ : ∃ o, txE ds = o := ⟨_, rfl⟩
 rw [ho]
 unfold txE at ho
 obtain ⟨n, hn⟩ : ∃ n, (S ds).size = n := ⟨_, rfl⟩
 rw [hn] at hU
 cases hR : unhex ds 0 with
 | error p =>
  rw [hR] at hU ho
  have hU1 : Hid (Calls Tryz.prog 151 #[.string (S ds)] w fun e w' => e = .returned (.tuple #[.string ⟨#[]⟩, .int .i64 11, .int .i64 (p : Int)]) ∧ Below w.heap.size w w') := hU
  dsimp only at ho
  subst ho
  clear hU hR hn
  generalize S ds = s at *
  go_enter Tryz.func152, Tryz.ntmps152
  go_wp2_with fail
  refine hU1.out.mono ?_
  rintro e w1 ⟨rfl, hb⟩
  have hfin : Hid (TxQ none w (.returned (.tuple #[.string ⟨#[]⟩, .bool false])) w1) := ⟨rfl, hb⟩
  clear hb hU1
  go_wp2_with fail
  go_ret2
  exact hfin.out
 | ok bs =>
  have hbl : bs.length ≤ 4096 := by have := unhex_len ds.length ds 0 bs (Nat.le_refl _) hR; omega
  rw [hR] at hU ho
  have hU1 : Hid (Calls Tryz.prog 151 #[.string (S ds)] w fun e w' => e = .returned (.tuple #[.string (S bs), .int .i64 0, .int .i64 (n : Int)]) ∧ Below w.heap.size w w') := hU
  dsimp only at ho
  have hT : ∀ W, Hid (Calls Tryz.prog 165 #[.string (S bs)] W fun r w' => treeQ (S bs) W.heap.size r w' ∧ Below W.heap.size W w') := fun W => tree_any (S bs) W (by rw [S_size]; omega)
  clear hU hR hn
  generalize S ds = s at *
  have ho' : Hid ((match treeR (S bs) with | .error _ => none | .ok xs => one1 (S bs) xs) = o) := ho
  clear ho hbl
  generalize S bs = sb at *
  go_enter Tryz.func152, Tryz.ntmps152
  go_wp2_with fail
  refine hU1.out.mono ?_
  rintro e w1 ⟨rfl, hb⟩
  have hb' : Hid (Below w.heap.size w w1) := hb
  have hT1 := hT w1
  clear hb hU1 hT
  go_wp2_with fail
  refine hT1.out.mono ?_
  rintro e w2 ⟨hq, hb2⟩
  have hB : Hid (Below w.heap.size w w2) := hb'.out.trans (hb2.mono hb'.out.size)
  clear hb2 hT1 hb'
  rcases hq with ⟨xs, v, hk, rfl, hown⟩ | ⟨f, hk, rfl⟩
  ·have ho2 : Hid (one1 sb xs = o) := by
    have h1 := ho'.out
    rw [hk] at h1
    exact h1
   by_cases h1 : xs.length = 1
   ·obtain ⟨x, rfl⟩ := List.length_eq_one_iff.1 h1
    obtain ⟨g, c, rfl, c1, c2, c3, c4⟩ := own_one hown
    have ho3 : Hid ((if txB x = true then some (sb.extract (x.1 + x.2.1.size) (x.1 + x.2.1.size + x.2.1.len)).data.toList else none) = o) := ho2.out
    have hnd : Hid ((ndOf sb x).made = x.2.1.made ∧ (ndOf sb x).cls = (x.2.1.cls : Int) ∧ (ndOf sb x).tag = (x.2.1.tag : Int) ∧ (x.2.1.made = false → (ndOf sb x).body = sb.extract (x.1 + x.2.1.size) (x.1 + x.2.1.size + x.2.1.len))) := ⟨rfl, rfl, rfl, fun h => by unfold ndOf; simp [h]⟩
    have hno : Hid (txB x = false → TxQ o w (.returned (.tuple #[.string ⟨#[]⟩, .bool false])) w2) := fun h => by
     have h1 := ho3.out
     rw [if_neg (by simp [h])] at h1
     subst h1
     exact ⟨rfl, hB.out⟩
    have hyes : Hid (txB x = true → TxQ o w (.returned (.tuple #[.string (ndOf sb x).body, .bool true])) w2) := fun h => by
     have h1 := ho3.out
     rw [if_pos h] at h1
     subst h1
     have hm : x.2.1.made = false := by
      unfold txB at h
      simp at h
      exact h.1.1
     rw [hnd.out.2.2.2 hm]
     exact ⟨rfl, hB.out⟩
    rw [hnd.out.1] at c2
    rw [hnd.out.2.1] at c1
    rw [hnd.out.2.2.1] at c3
    generalize (ndOf sb x).body = body at *
    have hx : Hid (txB x = (!x.2.1.made && x.2.1.cls == 0 && (x.2.1.tag == 4 || x.2.1.tag == 12 || x.2.1.tag == 19 || x.2.1.tag == 22))) := rfl
    generalize x.2.1.made = md at *
    generalize x.2.1.cls = cl at *
    generalize x.2.1.tag = tg at *
    generalize txB x = tx at *
    clear hown hk ho' ho2 h1 ho3 hnd
    cases md with
    | true =>
     have hf : Hid (TxQ o w (.returned (.tuple #[.string ⟨#[]⟩, .bool false])) w2) := hno.out (by rw [hx.out]; rfl)
     clear hno hyes hx
     go_wp2_with fail
     go_ret2
     exact hf.out
    | false =>
     by_cases hc : cl = 0
     ·have gc : ((cl : Int) != 0) = false := by rw [hc]; rfl
      have hx2 : Hid (tx = (tg == 4 || tg == 12 || tg == 19 || tg == 22)) := by unfold Hid; rw [hx.out, hc]; rfl
      clear hx hc
      by_cases ht : tg = 4 ∨ tg = 12 ∨ tg = 19 ∨ tg = 22
      ·have hf : Hid (TxQ o w (.returned (.tuple #[.string body, .bool true])) w2) := hyes.out (by rw [hx2.out]; rcases ht with h | h | h | h <;> simp [h])
       clear hno hyes hx2
       rcases ht with h | h | h | h
       ·have g4 : ((tg : Int) == 4) = true := by rw [h]; rfl
        clear h
        go_wp2_with fail
        go_ret2
        exact hf.out
       ·have g4 : ((tg : Int) == 4) = false := by rw [h]; rfl
        have g12 : ((tg : Int) == 12) = true := by rw [h]; rfl
        clear h
        go_wp2_with fail
        go_ret2
        exact hf.out
       ·have g4 : ((tg : Int) == 4) = false := by rw [h]; rfl
        have g12 : ((tg : Int) == 12) = false := by rw [h]; rfl
        have g19 : ((tg : Int) == 19) = true := by rw [h]; rfl
        clear h
        go_wp2_with fail
        go_ret2
        exact hf.out
       ·have g4 : ((tg : Int) == 4) = false := by rw [h]; rfl
        have g12 : ((tg : Int) == 12) = false := by rw [h]; rfl
        have g19 : ((tg : Int) == 19) = false := by rw [h]; rfl
        have g22 : ((tg : Int) == 22) = true := by rw [h]; rfl
        clear h
        go_wp2_with fail
        go_ret2
        exact hf.out
      ·have hf : Hid (TxQ o w (.returned (.tuple #[.string ⟨#[]⟩, .bool false])) w2) := hno.out (by rw [hx2.out]; simp; omega)
       have g4 : ((tg : Int) == 4) = false := by rw [beq_eq_false_iff_ne]; omega
       have g12 : ((tg : Int) == 12) = false := by rw [beq_eq_false_iff_ne]; omega
       have g19 : ((tg : Int) == 19) = false := by rw [beq_eq_false_iff_ne]; omega
       have g22 : ((tg : Int) == 22) = false := by rw [beq_eq_false_iff_ne]; omega
       clear hno hyes hx2 ht
       go_wp2_with fail
       go_ret2
       exact hf.out
     ·have gc : ((cl : Int) != 0) = true := by simp; omega
      have hf : Hid (TxQ o w (.returned (.tuple #[.string ⟨#[]⟩, .bool false])) w2) := hno.out (by rw [hx.out]; simp [hc])
      clear hno hyes hx hc
      go_wp2_with fail
      go_ret2
      exact hf.out
   ·have hf : Hid (TxQ o w (.returned (.tuple #[.string ⟨#[]⟩, .bool false])) w2) := by
     have h2 := ho2.out
     unfold one1 at h2
     split at h2
     ·exact absurd rfl h1
     ·subst h2
      exact ⟨rfl, hB.out⟩
    have hln : Hid ((xs.map (ndOf sb)).length ≠ 1) := by unfold Hid; rw [List.length_map]; exact h1
    have hw : Hid (OwnN w2 w1.heap.size v (xs.map (ndOf sb))) := hown
    obtain ⟨va, vn, vc, rfl, hvn⟩ : ∃ va vn vc, v = .slice va vn vc ∧ vn = (xs.map (ndOf sb)).length := by
     rcases (show w2.ownsRow w1.heap.size 153 5 v (xs.map (ndOf sb)).length (nv (xs.map (ndOf sb))) from hw.out).2 with ⟨rfl, h0⟩ | ⟨g, cap, cur, rfl, _⟩
     ·exact ⟨none, 0, 0, rfl, h0.symm⟩
     ·exact ⟨_, _, _, rfl, rfl⟩
    have gl : ((vn : Int) != 1) = true := by have := hln.out; simp; omega
    clear hown hk ho' ho2 h1 hln hw hvn
    go_wp2_with fail
    go_ret2
    exact hf.out
  ·have hf : Hid (TxQ o w (.returned (.tuple #[.string ⟨#[]⟩, .bool false])) w2) := by
    have h1 := ho'.out
    rw [hk] at h1
    subst h1
    exact ⟨rfl, hB.out⟩
   have hc := treeR_code _ _ hk
   have gf : ((f.1 : Int) != 0) = true := by simp; omega
   clear hk hc ho' hB
   generalize f.1 = f1 at *
   generalize f.2 = f2 at *
   go_wp2_with fail
   go_ret2
   exact hf.out
end Pa
end Go.Proofs.YtkknenmpdimdbaaGreatDoor

namespace Go.Proofs.YtkknenmpdimdbaaGreatDoor
namespace Pa
open Go.RowKit
open TextMath (fold lo normal check wo unhex)
open Ke (refV)
set_option linter.unusedVariables false
set_option linter.unusedSimpArgs false
set_option maxRecDepth 100000
theorem ehx : ∀ args W, (callFunc 153 args).run Tryz.prog W = .ok (.enter 153 args) W := enters_of Tryz.func153 (by kernel_rfl) rfl
theorem tw_hd (s : ByteArray) (p : Nat) : lf s (p + ((lf s p).takeWhile hd).length) = (lf s p).dropWhile hd := by
 rw [← lf_drop]
 generalize lf s p = l
 induction l with
 | nil => rfl
 | cons c l ih =>
  rw [List.takeWhile_cons, List.dropWhile_cons]
  split
  ·simpa using ih
  ·rfl
theorem tw_len (P : UInt8 → Bool) (l : List UInt8) : (l.takeWhile P).length ≤ l.length := List.Sublist.length_le (List.takeWhile_sublist P)
set_option maxHeartbeats 8000000 in
theorem hexValue_any (ev : Nat → TypeId × Value) (s : ByteArray) (b : Nat) (hs : s.size ≤ 4096) : HxOk hxO ev s b := by
 intro r R p w hR hrp hp hp0 hr hE
 subst hrp
 unfold hxO at hR
 injection hR with hR
 obtain ⟨c0, c1, z1⟩ := hr.cells
 have h' : Hid (Rd w b s p ∧ p ≤ s.size ∧ 0 < p ∧ EvA ev w) := ⟨hr, hp, hp0, hE⟩
 have p1 : (1 : Int) ≤ (p : Int) := by omega
 have pb : (p : Int) ≤ 4096 := by omega
 have hRw : Hid (Calls Tryz.prog 117 #[.pointer (some ⟨b, 0, none⟩), .func (.func 153) #[] #[]] w fun e w' => RwQ hd s p b w e w') := row_any hd _ ehx hexDigit_any s p b w hr hp hs
 have hR' : Hid (hxR (lf s p) = R) := hR
 have htl : ((lf s p).takeWhile hd).length ≤ 4096 := by have := tw_len hd (lf s p); rw [lf_len] at this; omega
 have hlf := tw_hd s p
 have hql : Hid ((((s.size - ((lf s p).length + 1) : Nat) : Int)) = (p : Int) - 1) := by unfold Hid; rw [lf_len]; omega
 obtain ⟨t, ht⟩ : ∃ t, (lf s p).takeWhile hd = t := ⟨_, rfl⟩
 obtain ⟨q1, hq1⟩ : ∃ z, p + ((lf s p).takeWhile hd).length = z := ⟨_, rfl⟩
 have hRow2 : Hid (∀ e w', RwQ hd s p b w e w' → e = .returned (.string (S t)) ∧ Rd w' b s q1 ∧ q1 ≤ s.size ∧ Wb b w w' ∧ lf s q1 = (lf s p).dropWhile hd ∧ p ≤ q1) := by
  rintro e w' ⟨h1, h2, h3, h4⟩
  rw [ht] at h1
  rw [hq1] at h2 h3 hlf
  exact ⟨h1, h2, h3, h4, hlf, by omega⟩
 have hT : ∀ W, Hid (Calls Tryz.prog 152 #[.string (S t)] W fun e w' => TxQ (txE t) W e w') := fun W => textOf_any t W (by rw [← ht]; exact htl)
 have hRt : Hid ((match txE t with | none => .error (56, (lf s p).length + 1) | some v => if kO (sp ((lf s p).dropWhile hd)) = 0 then .ok (v, sp ((lf s p).dropWhile hd)) else .error (55, (sp ((lf s p).dropWhile hd)).length)) = R) := by
  have h1 := hR'.out
  unfold hxR at h1
  rw [ht] at h1
  exact h1
 have htx : Hid (∀ v, txE t = some v → v.length ≤ 4096) := fun v hv => by have := txE_len hv; rw [← ht] at this; omega
 clear hr hp hp0 hE hR ht hq1 htl hlf hR'
 generalize S t = st at *
 generalize txE t = o at *
 have hs' : Hid (s.size ≤ 4096) := hs
 clear hs
 go_enter Tryz.func121, Tryz.ntmps121
 go_wp2_with fail
 refine hRw.out.mono ?_
 intro e w1 hq
 obtain ⟨rfl, hr1, hq1s, hw1, hl1, hpq⟩ := hRow2.out e w1 hq
 have h1' : Hid (Rd w1 b s q1 ∧ q1 ≤ s.size ∧ Wb b w w1 ∧ lf s q1 = (lf s p).dropWhile hd ∧ p ≤ q1) := ⟨hr1, hq1s, hw1, hl1, hpq⟩
 have hT1 := hT w1
 clear hq hRow2 hRw hT hr1 hq1s hw1 hl1 hpq c0 c1 z1
 go_wp2_with fail
 refine hT1.out.mono ?_
 rintro e w2 ⟨rfl, hb2⟩
 have h2' : Hid (Rd w2 b s q1 ∧ Wb b w w2) := ⟨h1'.out.1.below hb2, h1'.out.2.2.1.trans (Wb.of_below hb2 (Nat.le_of_lt h1'.out.1.lt))⟩
 clear hT1 hb2
 cases o with
 | none =>
  obtain ⟨et, het⟩ : ∃ et, ev 56 = et := ⟨_, rfl⟩
  have hgc : w2.cell? ⟨6, 0, none⟩ = some (.iface et.1 et.2) := by
   have h1 := (h'.out.2.2.2.wb h'.out.1 h2'.out.2) (56, 6) (by decide)
   rw [het] at h1
   exact h1
  have hfin : Hid (∀ i, VQ ev s b p w R (.returned (.tuple #[.string ⟨#[]⟩, .iface 69 (.agg #[.iface et.1 et.2, .int .i64 ((p : Int) - 1)])])) (w2.drewN i)) := fun i => VQ.drew (Or.inr ⟨56, _, q1, hRt.out.symm, by rw [hql.out, ← het]; rfl, h1'.out.2.1, h2'.out.1, h2'.out.2⟩) i
  clear hRt het htx h2' h1'
  have hno : Hid (S (Option.getD (none : Option (List UInt8)) []) = ⟨#[]⟩ ∧ (none : Option (List UInt8)).isSome = false) := ⟨rfl, rfl⟩
  rw [hno.out.1, hno.out.2]
  clear hno
  go_wp2_with fail
  go_quiet (fail)
  go_wp2_with fail
  go_ret2
  exact hfin.out _
 | some v =>
  have hRt2 : Hid ((if kO (sp ((lf s p).dropWhile hd)) = 0 then .ok (v, sp ((lf s p).dropWhile hd)) else .error (55, (sp ((lf s p).dropWhile hd)).length)) = R) := hRt.out
  have hyes : Hid (S (Option.getD (some v) []) = S v ∧ (some v).isSome = true) := ⟨rfl, rfl⟩
  rw [hyes.out.1, hyes.out.2]
  have hvl : Hid (v.length ≤ 4096) := htx.out v rfl
  have hSk : Hid (Calls Tryz.prog 87 #[.pointer (some ⟨b, 0, none⟩)] w2 fun e w' => e = .returned (.tuple #[]) ∧ SkQ s q1 b w2 w') := skip_any s q1 b w2 h2'.out.1 h1'.out.2.1 hs'.out
  obtain ⟨sv, hsv⟩ : ∃ z, S v = z := ⟨_, rfl⟩
  have hsv' : Hid (S v = sv) := hsv
  rw [hsv]
  clear hRt htx hyes hsv
  go_wp2_with fail
  refine hSk.out.mono ?_
  rintro e w3 ⟨rfl, q2, hl2, hq12, hq2s, hr3, hw3⟩
  have h3' : Hid (Rd w3 b s q2 ∧ Wb b w w3 ∧ p ≤ q2 ∧ q2 ≤ s.size ∧ lf s q2 = sp ((lf s p).dropWhile hd)) := ⟨hr3, h2'.out.2.trans hw3, by have := h1'.out.2.2.2.2; omega, hq2s, by rw [hl2, h1'.out.2.2.2.1]⟩
  have hRs : Hid (Calls Tryz.prog 150 #[.pointer (some ⟨b, 0, none⟩)] w3 fun e w' => e = .returned (.string (S (lf s q2))) ∧ ∃ n, w' = w3.drewN n) := rest_any s q2 b w3 hr3 hq2s hs'.out
  have hKo : ∀ W, Hid (Calls Tryz.prog 149 #[.string (S (lf s q2))] W fun e w' => e = .returned (.int .i64 (kO (lf s q2) : Int)) ∧ ∃ n, w' = W.drewN n) := fun W => by
   have h1 := kindOf_any (S (lf s q2)) W (by rw [S_size, lf_len]; have := hs'.out; omega)
   rw [S_l] at h1
   exact h1
  have hRt3 : Hid ((if kO (lf s q2) = 0 then .ok (v, lf s q2) else .error (55, (lf s q2).length)) = R) := by unfold Hid; rw [h3'.out.2.2.2.2]; exact hRt2.out
  have hql2 : Hid ((((s.size - (lf s q2).length : Nat) : Int)) = (q2 : Int)) := by unfold Hid; rw [lf_len]; have := h3'.out.2.2.2.1; omega
  clear hSk hl2 hq12 hq2s hr3 hw3 hRt2 h1' h2'
  obtain ⟨sr, hsr⟩ : ∃ z, S (lf s q2) = z := ⟨_, rfl⟩
  rw [hsr] at hRs hKo
  obtain ⟨kk, hkk⟩ : ∃ z, kO (lf s q2) = z := ⟨_, rfl⟩
  rw [hkk] at hRt3
  simp only [hkk] at hKo
  clear hsr hkk
  by_cases hk0 : kk = 0
  ·have hfin : Hid (∀ i, VQ ev s b p w R (.returned (.tuple #[.string sv, .nilIface])) (w3.drewN i)) := fun i => by
    refine VQ.drew (Or.inl ⟨v, lf s q2, q2, ?_, by rw [hsv'.out], rfl, h3'.out.2.2.1, h3'.out.2.2.2.1, hvl.out, h3'.out.1, h3'.out.2.1⟩) i
    have h1 := hRt3.out
    rw [if_pos hk0] at h1
    exact h1.symm
   have gk : ((kk : Int) != 0) = false := by rw [hk0]; rfl
   clear hRt3 hk0 h3' hql2
   go_wp2_with fail
   refine hRs.out.mono ?_
   rintro e w4 ⟨rfl, i4, rfl⟩
   have hK4 := hKo (w3.drewN i4)
   clear hRs hKo
   go_wp2_with fail
   refine hK4.out.mono ?_
   rintro e w5 ⟨rfl, i5, rfl⟩
   clear hK4
   go_wp2_with fail
   go_ret2
   exact hfin.out _
  ·have gk : ((kk : Int) != 0) = true := by simp; omega
   obtain ⟨et, het⟩ : ∃ et, ev 55 = et := ⟨_, rfl⟩
   have hgc : w3.cell? ⟨5, 0, none⟩ = some (.iface et.1 et.2) := by
    have h1 := (h'.out.2.2.2.wb h'.out.1 h3'.out.2.1) (55, 5) (by decide)
    rw [het] at h1
    exact h1
   obtain ⟨d0, d1, d2⟩ := h3'.out.1.cells
   have hfin : Hid (∀ i j, VQ ev s b p w R (.returned (.tuple #[.string ⟨#[]⟩, .iface 69 (.agg #[.iface et.1 et.2, .int .i64 (q2 : Int)])])) ((w3.drewN i).drewN j)) := fun i j => by
    refine VQ.drew (VQ.drew (Or.inr ⟨55, (lf s q2).length, q2, ?_, by rw [hql2.out, ← het]; rfl, h3'.out.2.2.2.1, h3'.out.1, h3'.out.2.1⟩) i) j
    have h1 := hRt3.out
    rw [if_neg hk0] at h1
    exact h1.symm
   clear hRt3 hk0 h3' hql2 het
   go_wp2_with fail
   refine hRs.out.mono ?_
   rintro e w4 ⟨rfl, i4, rfl⟩
   have hK4 := hKo (w3.drewN i4)
   clear hRs hKo
   go_wp2_with fail
   refine hK4.out.mono ?_
   rintro e w5 ⟨rfl, i5, rfl⟩
   clear hK4
   go_wp2_with fail
   go_quiet (fail)
   go_wp2_with fail
   go_ret2
   exact hfin.out _ _
end Pa
end Go.Proofs.YtkknenmpdimdbaaGreatDoor

namespace Go.Proofs.YtkknenmpdimdbaaGreatDoor
namespace Pa
open TextMath (fold lo normal check wo seqLen check_good check_bad check_ind check_app_good seqLen_le)
open Ke (tyOk tyC tyR utf PR mst ec escF escV pt1 ptT ptx OkP OkI OkD Gd typ_good)
set_option linter.unusedVariables false
set_option linter.unusedSimpArgs false
def En (r : List UInt8) : Prop := r = [] ∨ ∃ c t, r = c :: t ∧ (c = 44 ∨ c = 43)
theorem escF_len (N : Nat) : ∀ (l : List UInt8) (i : Nat), l.length ≤ (escF N i l).length
 | [], _ => Nat.zero_le _
 | b :: t, i => by
  have := escF_len N t (i + 1)
  have h1 : 1 ≤ (ec N i b).length := by unfold ec; split <;> (try split) <;> simp
  simp only [escF, List.length_append, List.length_cons]
  omega
theorem sp_id {l : List UInt8} (h : l.head? ≠ some 32) : sp l = l := by
 unfold sp
 cases l with
 | nil => rfl
 | cons c t =>
  rw [List.dropWhile_cons]
  have : (c == 32) = false := by rw [beq_eq_false_iff_ne]; intro e; subst e; exact h rfl
  simp [this]
end Pa
end Go.Proofs.YtkknenmpdimdbaaGreatDoor

namespace Go.Proofs.YtkknenmpdimdbaaGreatDoor
namespace Pa
open Go.RowKit
open TextMath (fold lo normal check wo unhex)
open Ke (tyOk tyC utf PR)
set_option linter.unusedVariables false
set_option linter.unusedSimpArgs false
set_option maxRecDepth 100000
def endp : List UInt8 → Nat
 | [] => 0
 | [c] => if c = 44 ∨ c = 43 then 0 else 1
 | c :: d :: r => if c = 92 then 2 + endp r else if c = 44 ∨ c = 43 then 0 else 1 + endp (d :: r)
theorem endp_sep {c : UInt8} (r : List UInt8) (h : c = 44 ∨ c = 43) : endp (c :: r) = 0 := by
 cases r with
 | nil => unfold endp; rw [if_pos h]
 | cons d r =>
  unfold endp
  rw [if_neg (by rcases h with rfl | rfl <;> decide), if_pos h]
theorem endp_plain {c : UInt8} (r : List UInt8) (h : ¬ (c = 44 ∨ c = 43)) (h2 : c ≠ 92) : endp (c :: r) = 1 + endp r := by
 cases r with
 | nil => unfold endp; rw [if_neg h]
 | cons d r =>
        conv => lhs; unfold endp
        rw [if_neg h2, if_neg h]
theorem endp_esc (d : UInt8) (r : List UInt8) : endp (92 :: d :: r) = 2 + endp r := by
 conv => lhs; unfold endp
 rw [if_pos rfl]
theorem endp_lame : endp [92] = 1 := by decide
theorem endp_le : ∀ (n : Nat) (l : List UInt8), l.length ≤ n → endp l ≤ l.length
 | _, [], _ => Nat.zero_le _
 | 0, _ :: _, h => by simp at h
 | n + 1, [c], _ => by unfold endp; split <;> simp
 | n + 1, c :: d :: r, h => by
  have h1 := endp_le n r (by simp at h; omega)
  have h2 := endp_le n (d :: r) (by simp at h ⊢; omega)
  unfold endp
  simp only [List.length_cons] at h2 ⊢
  split
  ·omega
  ·split <;> omega
theorem endp_en : ∀ (n : Nat) (l : List UInt8), l.length ≤ n → En (l.drop (endp l))
 | _, [], _ => Or.inl rfl
 | 0, _ :: _, h => by simp at h
 | n + 1, [c], _ => by
  by_cases h : c = 44 ∨ c = 43
  ·rw [endp_sep [] h]; exact Or.inr ⟨c, [], rfl, h⟩
  ·have : endp [c] = 1 := by unfold endp; rw [if_neg h]
   rw [this]; exact Or.inl rfl
 | n + 1, c :: d :: r, h => by
  by_cases h2 : c = 92
  ·subst h2
   rw [endp_esc]
   have := endp_en n r (by simp at h; omega)
   rw [Nat.add_comm]
   simpa using this
  ·by_cases h3 : c = 44 ∨ c = 43
   ·rw [endp_sep _ h3]; exact Or.inr ⟨c, _, rfl, h3⟩
   ·rw [endp_plain _ h3 h2]
    have := endp_en n (d :: r) (by simp at h ⊢; omega)
    rw [Nat.add_comm]
    simpa using this
theorem endp_zero (l : List UInt8) : endp l = 0 ↔ kO l = 0 := by
 cases l with
 | nil => exact ⟨fun _ => rfl, fun _ => rfl⟩
 | cons c r =>
  by_cases h : c = 44 ∨ c = 43
  ·rw [endp_sep r h]
   unfold kO
   simp [h]
  ·have h1 : endp (c :: r) ≠ 0 := by
    by_cases h2 : c = 92
    ·subst h2
     cases r with
     | nil => rw [endp_lame]; decide
     | cons d r => rw [endp_esc]; omega
    ·rw [endp_plain r h h2]; omega
   refine ⟨fun e => absurd e h1, fun e => ?_⟩
   exfalso
   unfold kO at e
   dsimp only at e
   rw [if_neg h] at e
   split at e
   ·unfold kB at e
    repeat' split at e
    all_goals cases e
   ·repeat' split at e
    all_goals cases e
def Al (s : ByteArray) (p t : Nat) : Prop := p ≤ s.size ∧ t = p + endp (lf s p)
variable {s : ByteArray} {p q t : Nat}
theorem Al.le (h : Al s p t) : p ≤ t ∧ t ≤ s.size := by
 have := endp_le _ (lf s p) (Nat.le_refl _)
 rw [lf_len] at this
 have := h.1
 have := h.2
 omega
theorem Al.en (h : Al s p t) : En (lf s t) := by
 rw [h.2, ← lf_drop]
 exact endp_en _ _ (Nat.le_refl _)
theorem en_ne {r : List UInt8} (h : En r) : r.head? ≠ some 32 := by
 rcases h with rfl | ⟨c, t, rfl, h2⟩
 ·simp
 ·rcases h2 with rfl | rfl <;> simp
theorem Al.done (h : Al s p t) : p = t ↔ kO (lf s p) = 0 := by
 rw [← endp_zero]
 have := h.2
 omega
theorem Al.lt (h : Al s p t) (hp : p < t) : ∃ hs : p < s.size, ¬ (s[p] = 44 ∨ s[p] = 43) := by
 have h1 := h.le
 refine ⟨by omega, fun q => ?_⟩
 have h2 := h.2
 rw [lf_cons (by omega : p < s.size), endp_sep _ q] at h2
 omega
theorem Al.step (h : Al s p t) (hp : p < s.size) (hc : ¬ (s[p] = 44 ∨ s[p] = 43)) (h2 : s[p] ≠ 92) : Al s (p + 1) t := by
 refine ⟨hp, ?_⟩
 have h3 := h.2
 rw [lf_cons hp, endp_plain _ hc h2] at h3
 omega
theorem Al.esc (h : Al s p t) (hp : p + 1 < s.size) (h2 : s[p] = 92) : Al s (p + 2) t ∧ p + 2 ≤ t := by
 have h3 := h.2
 rw [lf_cons (by omega : p < s.size), lf_cons hp, h2, endp_esc, show p + 1 + 1 = p + 2 from rfl] at h3
 exact ⟨⟨by omega, by omega⟩, by omega⟩
theorem Al.sep (h : Al s p t) (hp : p < s.size) (hc : s[p] = 44 ∨ s[p] = 43) : p = t := by
 have h3 := h.2
 rw [lf_cons hp, endp_sep _ hc] at h3
 omega
def RsQ (s : ByteArray) (p t : Nat) (w : World) (e : Ending) (w' : World) : Prop := ∃ q : Nat, e = .returned (.int .i64 (q : Int)) ∧ lf s q = sp (lf s p) ∧ p ≤ q ∧ Al s q t ∧ w' = w
set_option maxHeartbeats 2000000 in
theorem rskip_any (s : ByteArray) (p t : Nat) (w : World) (h : Al s p t) (hs : s.size ≤ 4096) :
  Calls Tryz.prog 36 #[.string s, .int .i64 (p : Int), .int .i64 (t : Int)] w fun e w' => RsQ s p t w e w' := by
 have hl := h.le
 have h' : Hid (Al s p t ∧ p ≤ t ∧ t ≤ s.size ∧ s.size ≤ 4096) := ⟨h, hl.1, hl.2, hs⟩
 have t0 : (0 : Int) ≤ (t : Int) := Int.natCast_nonneg _
 have tb : (t : Int) ≤ 4096 := by omega
 clear h hl hs
 go_enter Tryz.func36, Tryz.ntmps36
 go_wp2_with fail
 go_loop [1] (fun iv => ∃ k : Nat, iv = .int .i64 (k : Int) ∧ Hid (p ≤ k ∧ k ≤ t ∧ sp (lf s k) = sp (lf s p) ∧ Al s k t)) (fun iv => t - (intOf iv).toNat)
 case atStart => exact ⟨p, rfl, Nat.le_refl _, h'.out.2.1, rfl, h'.out.1⟩
 case round =>
  obtain ⟨k, rfl, hQ⟩ := hrel
  have k0 : (0 : Int) ≤ (k : Int) := Int.natCast_nonneg _
  by_cases hlt : k < t
  ·have k1 : (k : Int) < (t : Int) := Int.ofNat_lt.2 hlt
   have hks : k < s.size := by have := h'.out.2.2.1; omega
   have k2 : (k : Int) < (s.size : Int) := Int.ofNat_lt.2 hks
   obtain ⟨x, hx⟩ : ∃ x, s[k] = x := ⟨_, rfl⟩
   have hcs : Hid (lf s k = x :: lf s (k + 1)) := by unfold Hid; rw [lf_cons hks, hx]
   have hstep : Hid (x = 32 → Al s (k + 1) t) := fun e => by
    rw [← hx] at e
    exact hQ.out.2.2.2.step hks (by rw [e]; decide) (by rw [e]; decide)
   have hlt' : Hid (k < t) := hlt
   by_cases hc : x = 32
   ·have g : ((x.toNat : Int) == 32) = true := by rw [hc]; rfl
    have hfin : Hid (p ≤ k + 1 ∧ k + 1 ≤ t ∧ sp (lf s (k + 1)) = sp (lf s p) ∧ Al s (k + 1) t) := by
     refine ⟨by have := hQ.out.1; omega, hlt'.out, ?_, hstep.out hc⟩
     rw [← hQ.out.2.2.1, hcs.out]
     unfold sp
     rw [List.dropWhile_cons, hc]
     rfl
    clear hQ hc hcs hstep
    go_wp2_with fail
    go_round
    case rel => exact ⟨k + 1, by go_num, hfin⟩
    case measure => have := hlt'.out; simp [intOf]; omega
   ·have g : ((x.toNat : Int) == 32) = false := by rw [beq_eq_false_iff_ne]; exact fun h => hc (UInt8.toNat_inj.1 (by show x.toNat = 32; omega))
    have hfin : Hid (RsQ s p t w (.returned (.int .i64 (k : Int))) w) := ⟨k, rfl, by rw [← hQ.out.2.2.1, sp_id (by rw [hcs.out]; simpa using hc)], hQ.out.1, hQ.out.2.2.2, rfl⟩
    clear hQ hc hcs hstep hlt'
    go_wp2_with fail
    go_ret
    exact hfin.out
  ·have k1 : ¬ (k : Int) < (t : Int) := by omega
   have hkt : k = t := by have := hQ.out.2.1; omega
   have hfin : Hid (RsQ s p t w (.returned (.int .i64 (k : Int))) w) := ⟨k, rfl, by rw [← hQ.out.2.2.1, sp_id (by rw [hkt]; exact en_ne hQ.out.2.2.2.en)], hQ.out.1, hQ.out.2.2.2, rfl⟩
   clear hQ hlt hkt
   go_wp2_with fail
   go_ret
   exact hfin.out
end Pa
end Go.Proofs.YtkknenmpdimdbaaGreatDoor
