import Derived.Test.YtkknenmpdimdbaaGreatDoorFW28
import Derived.Deep.AppendLies
import Derived.KernelRfl
import Derived.Test.YtkknenmpdimdbaaGreatDoorFW27
namespace Go.Proofs.YtkknenmpdimdbaaGreatDoor
open Go.RowKit Go.Shelf
open BerMath (Hd HR num hAt wAt El TR elEnd endE one andThen kids)
set_option linter.unusedVariables false
structure Nd where
 dep : Int
 cls : Int
 made : Bool
 tag : Int
 body : ByteArray
def ndV (e : Nd) : List Value := [.int .i64 e.dep, .int .i64 e.cls, .bool e.made, .int .i64 e.tag, .string e.body]
def nv (l : List Nd) : List Value := l.flatMap ndV
theorem nv_snoc (l : List Nd) (e : Nd) : nv (l ++ [e]) = nv l ++ ndV e := by simp [nv]
theorem ndV_one (e : Nd) : ∀ u ∈ ndV e, u.oneCell' = true := by
 intro u hu
 simp [ndV] at hu
 rcases hu with rfl | rfl | rfl | rfl | rfl <;> rfl
theorem info_node : (Tryz.prog.info? 153).map (fun i => (i.zero, i.size, i.bytes)) = some (some (.agg #[.int .i64 0, .int .i64 0, .bool false, .int .i64 0, .string ⟨#[]⟩]), 5, 48) := by kernel_rfl
def OwnN (W : World) (B : Nat) (v : Value) (l : List Nd) : Prop := W.ownsRow B 153 5 v l.length (nv l)
theorem ownN_nil (W : World) (B : Nat) : OwnN W B (.slice none 0 0) [] := ⟨rfl, Or.inl ⟨rfl, rfl⟩⟩
theorem ownN_base {w : World} {B B' : Nat} {v : Value} {l : List Nd} (h : OwnN w B v l) (hB : B' ≤ B) : OwnN w B' v l := by
 rcases h with ⟨h1, ⟨rfl, h2⟩ | ⟨g, cap, cur, rfl, h3, h4⟩⟩
 ·exact ⟨h1, Or.inl ⟨rfl, h2⟩⟩
 ·exact ⟨h1, Or.inr ⟨g, cap, cur, rfl, Nat.le_trans hB h3, h4⟩⟩
theorem ownN_block {w w' : World} {B : Nat} {v : Value} {l : List Nd} (h : OwnN w B v l) (hb : ∀ g, B ≤ g → g < w.heap.size → v.ownBlock = some g → w'.heap[g]? = w.heap[g]?) : OwnN w' B v l := by
 rcases h with ⟨h1, ⟨rfl, h2⟩ | ⟨g, cap, cur, rfl, h3, h4, h5⟩⟩
 ·exact ⟨h1, Or.inl ⟨rfl, h2⟩⟩
 ·exact ⟨h1, Or.inr ⟨g, cap, cur, rfl, h3, by rw [hb g h3 (Array.getElem?_eq_some_iff.1 h4).1 rfl]; exact h4, h5⟩⟩
theorem ownN_below {w w' : World} {B : Nat} {v : Value} {l : List Nd} (h : OwnN w B v l) (hb : Below w.heap.size w w') : OwnN w' B v l := ownN_block h (fun g _ hg _ => hb.block g hg)
theorem ownN_form {w : World} {B : Nat} {v : Value} {l : List Nd} (h : OwnN w B v l) : (v = .slice none 0 0 ∧ l = []) ∨ (∃ g cap, v = .slice (some ⟨g, 0, none⟩) l.length cap) := by
 rcases h.2 with ⟨rfl, hn⟩ | ⟨g, cap, cur, rfl, _⟩
 ·exact Or.inl ⟨rfl, List.eq_nil_of_length_eq_zero hn⟩
 ·exact Or.inr ⟨g, cap, rfl⟩
def NdRow (w : World) (a : Option Addr) (l : List Nd) : Prop := ∀ i (hi : i < l.length), ∃ b off, a = some ⟨b, off, none⟩ ∧ w.cell? ⟨b, off + i * 5, none⟩ = some (.int .i64 l[i].dep) ∧ w.cell? ⟨b, off + i * 5 + 1, none⟩ = some (.int .i64 l[i].cls) ∧ w.cell? ⟨b, off + i * 5 + 2, none⟩ = some (.bool l[i].made) ∧ w.cell? ⟨b, off + i * 5 + 3, none⟩ = some (.int .i64 l[i].tag) ∧ w.cell? ⟨b, off + i * 5 + 4, none⟩ = some (.string l[i].body)
theorem NdRow.below {w w' : World} {a : Option Addr} {l : List Nd} (h : NdRow w a l) (hb : Below w.heap.size w w') : NdRow w' a l := fun i hi => by
 obtain ⟨b, off, e, h0, h1, h2, h3, h4⟩ := h i hi
 have hlt : b < w.heap.size := World.block_lt_of_cell? w _ h0
 exact ⟨b, off, e, (hb.cell hlt).trans h0, (hb.cell hlt).trans h1, (hb.cell hlt).trans h2, (hb.cell hlt).trans h3, (hb.cell hlt).trans h4⟩
theorem appendN_one (w : World) (B : Nat) (v : Value) (l : List Nd) (e : Nd) (g : Nat) (hown : OwnN w B v l) (hg : w.heap[g]? = some (.cells #[.int .i64 e.dep, .int .i64 e.cls, .bool e.made, .int .i64 e.tag, .string e.body] 153 (0, 0))) (hB : B ≤ w.heap.size) (hl : l.length ≤ 4294967296) :
  ∃ g' cap w', (Builtin.append_ #[148, 148] 148 #[v, .slice (some ⟨g, 0, none⟩) 1 1]).run Tryz.prog w = .ok (.slice (some ⟨g', 0, none⟩) (l.length + 1) cap) w' ∧ OwnN w' B (.slice (some ⟨g', 0, none⟩) (l.length + 1) cap) (l ++ [e]) ∧ w.grownBy w' v.ownBlock := by
 obtain ⟨i0, hi, hz0, hz1, hz2⟩ := info_parts info_node
 obtain ⟨g', cap, w', hr, h2, h3, _, _⟩ := run_append_lies (P := Tryz.prog) w 148 148 B 153 i0 _ 5 48 Tryz.underlying148 hi hz0 hz1 hz2 rfl (by decide) v l.length (nv l) hown ⟨g, 0, none⟩ 1 1 (ndV e) rfl (World.news_of_block hg) (ndV_one e) (by decide) (by unfold maxLen; omega) (by omega) hB w.heap.size rfl
 refine ⟨g', cap, w', hr, ?_, h3⟩
 unfold OwnN
 rw [nv_snoc, List.length_append]
 exact h2
def ChN (ks : Nat → Prop) (W W' : World) : Prop := W'.os = W.os ∧ W'.tape = W.tape ∧ W'.output = W.output ∧ W.heap.size ≤ W'.heap.size ∧ ∀ k, k < W.heap.size → ¬ ks k → W'.heap[k]? = W.heap[k]?
theorem ChN.of_below {ks : Nat → Prop} {W W' : World} (h : Below W.heap.size W W') : ChN ks W W' := ⟨h.os, h.tape, h.output, h.size, fun k hk _ => h.block k hk⟩
theorem ChN.trans {ks : Nat → Prop} {A B C : World} (h : ChN ks A B) (h' : ChN ks B C) : ChN ks A C := by
 obtain ⟨a1, a2, a3, a4, a5⟩ := h
 obtain ⟨b1, b2, b3, b4, b5⟩ := h'
 exact ⟨b1.trans a1, b2.trans a2, b3.trans a3, Nat.le_trans a4 b4, fun k hk hn => (b5 k (by omega) hn).trans (a5 k hk hn)⟩
theorem ChN.set {ks : Nat → Prop} (W : World) (p : Addr) (v : Value) (h : ks p.block) : ChN ks W (W.setCell p v) := ⟨rfl, rfl, rfl, by rw [World.size_setCell]; exact Nat.le_refl _, fun k _ hn => Below.heap_setCell _ _ _ _ (fun e => hn (by rw [e]; exact h))⟩
theorem ChN.of_grown {ks : Nat → Prop} {W W' : World} {row : Option Nat} (h : W.grownBy W' row) (hr : ∀ r, row = some r → ks r) : ChN ks W W' := ⟨h.os, h.tape, h.output, h.size, fun k hk hn => h.block k hk (fun e => hn (hr k e.symm))⟩
theorem ChN.below {ks : Nat → Prop} {W W' : World} {B : Nat} (h : ChN ks W W') (hB : B ≤ W.heap.size) (hk : ∀ k, ks k → B ≤ k) : Below B W W' := ⟨h.1, h.2.1, h.2.2.1, h.2.2.2.1, fun k hlt => h.2.2.2.2 k (by omega) (fun e => by have := hk k e; omega)⟩
theorem ChN.keeps {ks : Nat → Prop} {W W' : World} {B : Nat} (h : ChN ks W W') (hc : ∀ k o, ks k → B ≤ k → W.heap[k]? = some o → o.isCells = true) : KeepsFrom B W W' :=
 ⟨h.2.2.2.1, fun k o hk h1 h2 => (h.2.2.2.2 k (Array.getElem?_eq_some_iff.1 h1).1 (fun e => by have := hc k o e hk h1; rw [h2] at this; cases this)).trans h1⟩
theorem ChN.kw {ks : Nat → Prop} {W W' : World} (h : ChN ks W W') (hc : ∀ k cs t, ks k → W.heap[k]? = some (.cells cs t (0, 0)) → t ≠ 250 ∧ t ≠ 244) : KW W W' :=
 ⟨h.2.2.2.1, fun k cs t ht hk => (h.2.2.2.2 k (Array.getElem?_eq_some_iff.1 hk).1 (fun e => by obtain ⟨h1, h2⟩ := hc k cs t e hk; rcases ht with ht | ht <;> contradiction)).trans hk⟩
def ndOf (s : ByteArray) (x : El) : Nd := ⟨(x.2.2 : Int), (x.2.1.cls : Int), x.2.1.made, (x.2.1.tag : Int), if x.2.1.made = true then ⟨#[]⟩ else s.extract (x.1 + x.2.1.size) (x.1 + x.2.1.size + x.2.1.len)⟩
abbrev ndA (e : Nd) : Value := .agg #[.int .i64 e.dep, .int .i64 e.cls, .bool e.made, .int .i64 e.tag, .string e.body]
set_option maxRecDepth 100000 in
set_option maxHeartbeats 2000000 in
theorem node_any (s : ByteArray) (h : Hd) (d p : Nat) (w : World) (hp : p ≤ 281474976710656) (h1 : h.size ≤ 6) (h2 : h.len < 4294967296) (h3 : p + h.size + h.len ≤ s.size) :
  Calls Tryz.prog 174 #[elmV h (d : Int), .string s, .int .i64 (p : Int)] w fun r w' => r = .returned (ndA (ndOf s (p, h, d))) ∧ Below w.heap.size w w' := by
 have hC : ∀ W, Hid (Calls Tryz.prog 182 #[elmV h (d : Int), .string s, .int .i64 (p : Int)] W fun r w' => r = .returned (.string (s.extract (p + h.size) (p + h.size + h.len))) ∧ Below W.heap.size W w') := fun W => content_any s h (d : Int) p W hp h1 h2 h3
 by_cases hm : h.made = true
 ·have hv : Hid (ndA (ndOf s (p, h, d)) = .agg #[.int .i64 (d : Int), .int .i64 (h.cls : Int), .bool true, .int .i64 (h.tag : Int), .string ⟨#[]⟩]) := by
   unfold Hid ndA ndOf
   simp only [hm, if_true]
  rw [hv.out]
  obtain ⟨c, md, t, ln, sz⟩ := h
  dsimp only at hm
  subst hm
  clear hv hC hp h1 h2 h3
  go_enter Tryz.func174, Tryz.ntmps174
  go_wp2_with fail
  refine bodyPost_ret_by (v := .agg #[.int .i64 (d : Int), .int .i64 (c : Int), .bool true, .int .i64 (t : Int), .string ⟨#[]⟩]) ?_ rfl ⟨rfl, ?_⟩
  ·simp [results, Tryz.results174, go_sem]
  ·repeat' first | exact Below.refl _ _ | refine Below.setCell ?_ (by first | (simp; done) | (simp; omega)) _ | refine Below.alloc ?_ (by first | (simp; done) | (simp; omega)) _
 ·have hmf : h.made = false := by simpa using hm
  obtain ⟨X, hX⟩ : ∃ X, s.extract (p + h.size) (p + h.size + h.len) = X := ⟨_, rfl⟩
  have hv : Hid (ndA (ndOf s (p, h, d)) = .agg #[.int .i64 (d : Int), .int .i64 (h.cls : Int), .bool false, .int .i64 (h.tag : Int), .string X]) := by
   unfold Hid ndA ndOf
   simp only [hmf, ← hX]
   rfl
  rw [hv.out]
  rw [hX] at hC
  obtain ⟨c, md, t, ln, sz⟩ := h
  dsimp only at hmf
  subst hmf
  clear hv hp h1 h2 h3 hX hm
  go_enter Tryz.func174, Tryz.ntmps174
  go_wp2_with fail
  refine (hC _).out.mono ?_
  rintro r w1 ⟨rfl, hb⟩
  have n0 : w.heap.size + 2 < w1.heap.size := by have := hb.size; simp at this; omega
  have n1 : w.heap.size + 1 < w1.heap.size := by omega
  have n1' : w.heap.size + 1 + 1 < w1.heap.size := by omega
  have c0 : w1.cell? ⟨w.heap.size + 1, 0, none⟩ = some (.int .i64 0) := by rw [hb.cell (by simp)]; simp [go_sem]
  have f0 : w1.frozen? ⟨w.heap.size + 1, 0, none⟩ = false := by rw [hb.frozen (by simp)]; simp [go_sem]
  have e0 : w1.cell? ⟨w.heap.size + 1 + 1, 0, none⟩ = some (.int .i64 (d : Int)) := by rw [hb.cell (by simp)]; simp [go_sem]
  have z0 : w1.frozen? ⟨w.heap.size + 1 + 1, 0, none⟩ = false := by rw [hb.frozen (by simp)]; simp [go_sem]
  have c1 : w1.cell? ⟨w.heap.size + 1, 1, none⟩ = some (.int .i64 0) := by rw [hb.cell (by simp)]; simp [go_sem]
  have f1 : w1.frozen? ⟨w.heap.size + 1, 1, none⟩ = false := by rw [hb.frozen (by simp)]; simp [go_sem]
  have e1 : w1.cell? ⟨w.heap.size + 1 + 1, 1, none⟩ = some (.int .i64 (c : Int)) := by rw [hb.cell (by simp)]; simp [go_sem]
  have z1 : w1.frozen? ⟨w.heap.size + 1 + 1, 1, none⟩ = false := by rw [hb.frozen (by simp)]; simp [go_sem]
  have c2 : w1.cell? ⟨w.heap.size + 1, 2, none⟩ = some (.bool false) := by rw [hb.cell (by simp)]; simp [go_sem]
  have f2 : w1.frozen? ⟨w.heap.size + 1, 2, none⟩ = false := by rw [hb.frozen (by simp)]; simp [go_sem]
  have e2 : w1.cell? ⟨w.heap.size + 1 + 1, 2, none⟩ = some (.bool false) := by rw [hb.cell (by simp)]; simp [go_sem]
  have z2 : w1.frozen? ⟨w.heap.size + 1 + 1, 2, none⟩ = false := by rw [hb.frozen (by simp)]; simp [go_sem]
  have c3 : w1.cell? ⟨w.heap.size + 1, 3, none⟩ = some (.int .i64 0) := by rw [hb.cell (by simp)]; simp [go_sem]
  have f3 : w1.frozen? ⟨w.heap.size + 1, 3, none⟩ = false := by rw [hb.frozen (by simp)]; simp [go_sem]
  have e3 : w1.cell? ⟨w.heap.size + 1 + 1, 3, none⟩ = some (.int .i64 (t : Int)) := by rw [hb.cell (by simp)]; simp [go_sem]
  have z3 : w1.frozen? ⟨w.heap.size + 1 + 1, 3, none⟩ = false := by rw [hb.frozen (by simp)]; simp [go_sem]
  have c4 : w1.cell? ⟨w.heap.size + 1, 4, none⟩ = some (.string ⟨#[]⟩) := by rw [hb.cell (by simp)]; simp [go_sem]
  have f4 : w1.frozen? ⟨w.heap.size + 1, 4, none⟩ = false := by rw [hb.frozen (by simp)]; simp [go_sem]
  have e4 : w1.cell? ⟨w.heap.size + 1 + 1, 4, none⟩ = some (.string ⟨#[]⟩) := by rw [hb.cell (by simp)]; simp [go_sem]
  have z4 : w1.frozen? ⟨w.heap.size + 1 + 1, 4, none⟩ = false := by rw [hb.frozen (by simp)]; simp [go_sem]
  have HB : Below w.heap.size w w1 := ((((Below.refl _ _).alloc (Nat.le_refl _) _).alloc (by simp) _).alloc (by simp; omega) _).trans (hb.mono (by simp; omega))
  clear hb
  go_wp2_with fail
  refine bodyPost_ret_by (v := .agg #[.int .i64 (d : Int), .int .i64 (c : Int), .bool false, .int .i64 (t : Int), .string X]) ?_ rfl ⟨rfl, ?_⟩
  ·simp [results, Tryz.results174, go_sem, c0, c1, c2, c3, c4]
  ·repeat' first | exact HB | refine Below.setCell ?_ (by first | exact Nat.le_succ _ | exact Nat.le_add_right _ 2) _
end Go.Proofs.YtkknenmpdimdbaaGreatDoor

namespace Go.Proofs.YtkknenmpdimdbaaGreatDoor
open Go.RowKit Go.Shelf
open BerMath (Hd HR num hAt wAt El TR elEnd endE one andThen kids)
open BtSeq (SeqP postP range_p region_round postP_shut)
attribute [local go_sem] Oper.semAt_some
set_option linter.unusedVariables false
def tr (s : ByteArray) : TR := one s.data.toList (kids s.data.toList s.size) 20 s.size 0 1
abbrev flt (f : Nat × Nat) : List PanicEntry := [{ v := .iface 238 (.agg #[.int .i64 (f.1 : Int), .int .i64 (f.2 : Int)]), recovered := false }]
set_option maxRecDepth 100000 in
set_option maxHeartbeats 2000000 in
theorem elements1_any (n : Nat) (s : ByteArray) (hm : s.size ≤ 281474976710656) (sb : Nat) (w : World) (hsb : w.heap[sb]? = some (.cells #[.string s] 9 (0, 0))) :
  SeqP n Tryz.prog 179 #[.pointer (some ⟨sb, 0, none⟩)] encE KW (tr s).1 ((tr s).2.map flt) w := fun l J Jx W hW hJ hJx hY h0 => by
 have hbW : W.heap[sb]? = some (.cells #[.string s] 9 (0, 0)) := (hW.block sb (Array.getElem?_eq_some_iff.1 hsb).1).trans hsb
 have cS : W.cell? ⟨sb, 0, none⟩ = some (.string s) := by simp [World.cell?, hbW]
 have hA : ∀ W', Hid (Calls Tryz.prog 181 #[.string s] W' fun r w' => r = .returned (strV s s.size 20) ∧ Below W'.heap.size W' w') := fun W' => all_any s W'
 have hK : ∀ w1, Below W.heap.size W w1 → Hid (CallsIn Fence.wide (n - 1) Tryz.prog 180 #[strV s (s.size : Int) 20, .int .i64 0, .int .i64 1, .func (.yield l) #[] #[]] w1 (WkQ J Jx [] (tr s) w1)) := fun w1 hb1 => by
  have := walk_any s hm l W.heap.size J Jx KW (tr s).1 hJ hJx (fun _ _ h => h) (fun pre x W1 hj hp => yield_any 0 (YieldAt.mono (hY pre x W1 hj hp) (fun e W' h => h.2))) s.size 20 s.size 0 1 [] w1 (Nat.le_refl _) (Nat.zero_le _) (by omega) (by decide) (own_below hJ h0 hb1) (List.prefix_refl _)
  exact callsIn_wide.2 (callsIn_wide.1 this)
 have hdd : ∀ k : Nat, (Fence.wide.depth.isSome = true → 1 ≤ k) := fun k h => (by cases h)
 clear hY h0 hW hsb hbW
 refine callsIn_of_wp Tryz.func179 rfl trivial ?_ rfl
 simp only [Tryz.ntmps179, List.size_toArray, List.length_cons, List.length_nil, Nat.reduceAdd, Nat.reduceSub, Array.replicate_succ, Array.replicate_zero, List.push_toArray, List.append_toArray, List.nil_append, List.cons_append]
 gi_wp2_with (first
  | (refine ⟨trivial, hdd _, ?_⟩; gi_at_call 181; refine (callsIn_wide.2 (hA _).out).mono ?_; rintro r w1 ⟨rfl, hb1⟩)
  | (refine ⟨trivial, hdd _, ?_⟩; gi_at_call 180; refine (hK w1 hb1).out.mono ?_; rintro r w2 (⟨g1, rfl, g2, g3⟩ | ⟨ys, z, g1, rfl, g2⟩ | ⟨f, g1, rfl, g2⟩)))
 ·go_end0
  exact Or.inl ⟨⟨_, rfl⟩, by rw [g1]; rfl, g2⟩
 ·go_end0
  exact Or.inr (Or.inl ⟨⟨_, rfl⟩, ys, g1, g2⟩)
 ·exact ⟨rfl, Or.inr (Or.inr ⟨flt f, by rw [g1]; rfl, rfl, g2⟩)⟩
theorem elements_any (s : ByteArray) (w : World) : Calls Tryz.prog 173 #[.string s] w fun r w' => r = .returned (.func (.func 179) #[] #[.pointer (some ⟨w.heap.size, 0, none⟩)]) ∧ w' = w.alloc (.cells #[.string s] 9) := by
 have hmf : ∀ (fn : Fn) (first cap : Array Value) (w : World), (Instr.makeFunc fn first cap).run Tryz.prog w = .ok (.func fn first cap) w := fun _ _ _ _ => rfl
 go_enter Tryz.func173, Tryz.ntmps173
 go_wp2_with fail
 go_ret
 exact ⟨rfl, rfl⟩
theorem kw_put (B : Nat) (W : World) (l : Nat) (o o' : Obj) (hl : W.heap[l]? = some o) (ho : o.isCells = false) : KW W (W.putObj l o') :=
 ⟨by simp [World.putObj], fun k cs t _ hk => by
  rw [World.putObj_heap_other (fun e => by rw [← e, hk] at hl; injection hl with hl; subst hl; cases ho)]
  exact hk⟩
theorem tr_len (s : ByteArray) : (tr s).1.length ≤ 2147483650 ∧ ∀ x ∈ (tr s).1, elEnd x ≤ s.size ∧ 2 ≤ x.2.1.size ∧ x.2.1.size ≤ 6 ∧ x.2.1.len < 4294967296 ∧ x.2.1.cls ≤ 3 ∧ x.2.1.tag ≤ 30 ∧ x.2.2 ≤ 64 := by
 unfold tr
 cases hw : wAt s.data.toList 0 s.size with
 | ok x =>
  obtain ⟨k1, k2, k3, k4, k5, k6⟩ := BerMath.wAt_ok _ _ _ _ hw
  by_cases hm : x.made = true
  ·rw [BerMath.one_made _ _ _ _ _ _ x (by decide) hw hm]
   obtain ⟨i1, i2⟩ := BerMath.kids_len s.data.toList s.size (0 + x.size + x.len) (0 + x.size) (1 + 1) (by omega)
   refine ⟨by simp only [List.length_cons]; omega, fun y hy => ?_⟩
   rcases List.mem_cons.1 hy with rfl | hy
   ·exact ⟨k6, k1, k2, k3, k4, k5, by show 1 ≤ 64; decide⟩
   ·obtain ⟨j1, j2, j3⟩ := i2 y hy
    exact ⟨by omega, j3⟩
  ·rw [BerMath.one_leaf _ _ _ _ _ _ x (by decide) hw hm]
   refine ⟨by simp, fun y hy => ?_⟩
   rcases List.mem_cons.1 hy with rfl | hy
   ·exact ⟨k6, k1, k2, k3, k4, k5, by show 1 ≤ 64; decide⟩
   ·simp at hy
 | error o =>
  cases o with
  | some f => rw [BerMath.one_er _ _ _ _ _ _ f (by decide) hw]; exact ⟨by simp, fun x hx => by simp at hx⟩
  | none => rw [BerMath.one_miss _ _ _ _ _ _ (by decide) hw]; exact ⟨by simp, fun x hx => by simp at hx⟩
end Go.Proofs.YtkknenmpdimdbaaGreatDoor

namespace Go.Proofs.YtkknenmpdimdbaaGreatDoor
open Go.RowKit
open BerMath (Hd HR num hAt)
theorem caught_all (k : FuncId) (cap : Array Value) (w : World) (R : Ending → World → Prop)
  (hent : ∀ args W, (callFunc k args).run Tryz.prog W = .ok (.enter k args) W)
  (hr : Calls Tryz.prog k cap (w.alloc (.cells #[.int .i64 0, .int .i64 0] 238)) fun r w1 => R r w1 ∧ w1.heap[w.heap.size]? = (w.alloc (.cells #[.int .i64 0, .int .i64 0] 238)).heap[w.heap.size]? ∧ w.heap.size < w1.heap.size ∧ ∃ c q, Read r c q) :
  Calls Tryz.prog 171 #[.func (.func k) #[] cap] w fun r w' => ∃ r1 w1 c q, R r1 w1 ∧ Read r1 c q ∧ r = .returned (fltV c q) ∧ Below w.heap.size w1 w' ∧ ∀ b, b < w1.heap.size → b ≠ w.heap.size → w'.heap[b]? = w1.heap[b]? := by
 have hmf : ∀ (fn : Fn) (first cap : Array Value) (w : World), (Instr.makeFunc fn first cap).run Tryz.prog w = .ok (.func fn first cap) w := fun _ _ _ _ => rfl
 go_enter_defers Tryz.func171, Tryz.ntmps171
 go_wp2_with fail
 refine hr.mono ?_
 rintro r w1 ⟨hR, hblk, hlt, c, q, hread⟩
 have c0 : w1.cell? ⟨w.heap.size, 0, none⟩ = some (.int .i64 0) := by rw [World.cell?_of_block (w := w.alloc (.cells #[.int .i64 0, .int .i64 0] 238)) (a := ⟨w.heap.size, 0, none⟩) hblk]; simp [go_sem]
 have c1 : w1.cell? ⟨w.heap.size, 1, none⟩ = some (.int .i64 0) := by rw [World.cell?_of_block (w := w.alloc (.cells #[.int .i64 0, .int .i64 0] 238)) (a := ⟨w.heap.size, 1, none⟩) hblk]; simp [go_sem]
 have f0 : w1.frozen? ⟨w.heap.size, 0, none⟩ = false := by rw [World.frozen?_of_block (w := w.alloc (.cells #[.int .i64 0, .int .i64 0] 238)) (a := ⟨w.heap.size, 0, none⟩) hblk]; simp [go_sem]
 have f1 : w1.frozen? ⟨w.heap.size, 1, none⟩ = false := by rw [World.frozen?_of_block (w := w.alloc (.cells #[.int .i64 0, .int .i64 0] 238)) (a := ⟨w.heap.size, 1, none⟩) hblk]; simp [go_sem]
 clear hblk hr
 rcases hread with ⟨rfl, rfl, rfl⟩ | rfl
 ·
  obtain ⟨W, hW⟩ : ∃ W, W = (w1.setCell ⟨w.heap.size, 0, none⟩ (.int .i64 0)).setCell ⟨w.heap.size, 1, none⟩ (.int .i64 0) := ⟨_, rfl⟩
  have hs : W.heap.size = w1.heap.size := by rw [hW]; simp only [World.size_setCell]
  have hBW : Below w.heap.size w1 W := by
   rw [hW]
   refine Below.setCell (Below.setCell (Below.refl _ _) ?_ _) ?_ _ <;> exact Nat.le_refl _
  have c0' : W.cell? ⟨w.heap.size, 0, none⟩ = some (.int .i64 0) := by rw [hW]; simp [go_sem, c0]
  have c1' : W.cell? ⟨w.heap.size, 1, none⟩ = some (.int .i64 0) := by rw [hW]; simp [go_sem, c1]
  have f0' : W.frozen? ⟨w.heap.size, 0, none⟩ = false := by rw [hW]; simp [go_sem, f0]
  have f1' : W.frozen? ⟨w.heap.size, 1, none⟩ = false := by rw [hW]; simp [go_sem, f1]
  go_wp2_with fail
  rw [← hW]
  refine leaves_cons (f := 177) (args := #[.pointer (some ⟨w.heap.size, 0, none⟩)]) (by simp) (by simp [go_sem]) ?_
  refine (catch_idle w.heap.size W _ _ (by rw [hs]; exact hlt) c0' c1' f0' f1').mono ?_
  rintro e u' w'' ⟨rfl, rfl, w2, y0, y1, hb2, k0, k1, rfl⟩
  simp [Leaves, settle, results, Tryz.results171, go_sem, k0, k1]
  refine ⟨_, w1, hR, 0, 0, Or.inl ⟨rfl, rfl, rfl⟩, ⟨rfl, rfl⟩, ?_, ?_⟩
  ·have h1 : Below w.heap.size w1 w2 := hBW.trans (hb2.mono (by rw [hs]; exact Nat.le_of_lt hlt))
   refine Below.setCell (Below.setCell h1 ?_ _) ?_ _ <;> exact Nat.le_refl _
  ·intro b hb hbn
   rw [Below.heap_setCell _ _ _ _ hbn, Below.heap_setCell _ _ _ _ hbn, hb2.block b (by rw [hs]; exact hb), hW, Below.heap_setCell _ _ _ _ hbn, Below.heap_setCell _ _ _ _ hbn]
 ·
  refine leaves_cons (f := 177) (args := #[.pointer (some ⟨w.heap.size, 0, none⟩)]) (by simp) (by simp [go_sem]) ?_
  refine (catch_panicking w.heap.size c q [] w1 _ _ hlt c0 c1 f0 f1).mono ?_
  rintro e u' w'' ⟨rfl, rfl, w2, y0, y1, hb2, k0, k1, rfl⟩
  simp [Leaves, settle, results, Tryz.results171, go_sem, k0, k1]
  refine ⟨_, w1, hR, c, q, Or.inr rfl, ⟨rfl, rfl⟩, ?_, ?_⟩
  ·refine Below.setCell (Below.setCell (hb2.mono (Nat.le_of_lt hlt)) ?_ _) ?_ _ <;> exact Nat.le_refl _
  ·intro b hb hbn
   rw [Below.heap_setCell _ _ _ _ hbn, Below.heap_setCell _ _ _ _ hbn, hb2.block b hb]
end Go.Proofs.YtkknenmpdimdbaaGreatDoor
