import Derived.Test.YtkiidlnimjjnlaaDoorBtWk
import Derived.Deep.AppendLies
import Derived.KernelRfl
namespace Go.Proofs.YtkiidlnimjjnlaaDoor
open Go.RowKit Go.Shelf
open BerMath (Hd HR num hAt wAt El TR elEnd endE one andThen kids)
set_option linter.unusedVariables false

/-- A node as it lies. -/
structure Nd where
  dep : Int
  cls : Int
  made : Bool
  tag : Int
  body : ByteArray
def ndV (e : Nd) : List Value := [.int .i64 e.dep, .int .i64 e.cls, .bool e.made, .int .i64 e.tag, .string e.body]
def nv (l : List Nd) : List Value := l.flatMap ndV
theorem nv_snoc (l : List Nd) (e : Nd) : nv (l ++ [e]) = nv l ++ ndV e := by simp [nv]
theorem ndV_one (e : Nd) : ∀ u ∈ ndV e, u.oneCell' = true := by
  intro u hu
  simp [ndV] at hu
  rcases hu with rfl | rfl | rfl | rfl | rfl <;> rfl
theorem nv_len (l : List Nd) : (nv l).length = l.length * 5 := by
  induction l with
  | nil => rfl
  | cons x l ih => show (ndV x ++ nv l).length = _; rw [List.length_append, ih, List.length_cons]; simp [ndV]; omega
theorem info_node : (Tryd.prog.info? 38).map (fun i => (i.zero, i.size, i.bytes)) = some (some (.agg #[.int .i64 0, .int .i64 0, .bool false, .int .i64 0, .string ⟨#[]⟩]), 5, 48) := by kernel_rfl
/-- A list of nodes of the call's own. -/
def OwnN (W : World) (B : Nat) (v : Value) (l : List Nd) : Prop := W.ownsRow B 38 5 v l.length (nv l)
theorem ownN_nil (W : World) (B : Nat) : OwnN W B (.slice none 0 0) [] := ⟨rfl, Or.inl ⟨rfl, rfl⟩⟩
theorem ownN_base {w : World} {B B' : Nat} {v : Value} {l : List Nd} (h : OwnN w B v l) (hB : B' ≤ B) : OwnN w B' v l := by
  rcases h with ⟨h1, ⟨rfl, h2⟩ | ⟨g, cap, cur, rfl, h3, h4⟩⟩
  · exact ⟨h1, Or.inl ⟨rfl, h2⟩⟩
  · exact ⟨h1, Or.inr ⟨g, cap, cur, rfl, Nat.le_trans hB h3, h4⟩⟩
theorem ownN_block {w w' : World} {B : Nat} {v : Value} {l : List Nd} (h : OwnN w B v l) (hb : ∀ g, B ≤ g → g < w.heap.size → v.ownBlock = some g → w'.heap[g]? = w.heap[g]?) : OwnN w' B v l := by
  rcases h with ⟨h1, ⟨rfl, h2⟩ | ⟨g, cap, cur, rfl, h3, h4, h5⟩⟩
  · exact ⟨h1, Or.inl ⟨rfl, h2⟩⟩
  · exact ⟨h1, Or.inr ⟨g, cap, cur, rfl, h3, by rw [hb g h3 (Array.getElem?_eq_some_iff.1 h4).1 rfl]; exact h4, h5⟩⟩
theorem ownN_below {w w' : World} {B : Nat} {v : Value} {l : List Nd} (h : OwnN w B v l) (hb : Below w.heap.size w w') : OwnN w' B v l := ownN_block h (fun g _ hg _ => hb.block g hg)
theorem ownN_form {w : World} {B : Nat} {v : Value} {l : List Nd} (h : OwnN w B v l) : (v = .slice none 0 0 ∧ l = []) ∨ (∃ g cap, v = .slice (some ⟨g, 0, none⟩) l.length cap) := by
  rcases h.2 with ⟨rfl, hn⟩ | ⟨g, cap, cur, rfl, _⟩
  · exact Or.inl ⟨rfl, List.eq_nil_of_length_eq_zero hn⟩
  · exact Or.inr ⟨g, cap, rfl⟩
theorem nv_at (l : List Nd) (i : Nat) (hi : i < l.length) (j : Nat) (hj : j < 5) : (nv l)[i * 5 + j]? = (ndV l[i])[j]? := by
  induction l generalizing i with
  | nil => simp at hi
  | cons x l ih =>
    cases i with
    | zero =>
      show (ndV x ++ nv l)[0 * 5 + j]? = _
      rw [List.getElem?_append_left (by simp [ndV]; omega)]
      simp
    | succ i =>
      show (ndV x ++ nv l)[(i + 1) * 5 + j]? = _
      have e : (i + 1) * 5 + j = (ndV x).length + (i * 5 + j) := by simp [ndV]; omega
      rw [e, List.getElem?_append_right (by omega), Nat.add_sub_cancel_left, ih i (by simpa using hi)]
      rfl
/-- A row of nodes, wherever it lies. -/
def NdRow (w : World) (a : Option Addr) (l : List Nd) : Prop := ∀ i (hi : i < l.length), ∃ b off, a = some ⟨b, off, none⟩ ∧ w.cell? ⟨b, off + i * 5, none⟩ = some (.int .i64 l[i].dep) ∧ w.cell? ⟨b, off + i * 5 + 1, none⟩ = some (.int .i64 l[i].cls) ∧ w.cell? ⟨b, off + i * 5 + 2, none⟩ = some (.bool l[i].made) ∧ w.cell? ⟨b, off + i * 5 + 3, none⟩ = some (.int .i64 l[i].tag) ∧ w.cell? ⟨b, off + i * 5 + 4, none⟩ = some (.string l[i].body)
theorem NdRow.below {w w' : World} {a : Option Addr} {l : List Nd} (h : NdRow w a l) (hb : Below w.heap.size w w') : NdRow w' a l := fun i hi => by
  obtain ⟨b, off, e, h0, h1, h2, h3, h4⟩ := h i hi
  have hlt : b < w.heap.size := World.block_lt_of_cell? w _ h0
  exact ⟨b, off, e, (hb.cell hlt).trans h0, (hb.cell hlt).trans h1, (hb.cell hlt).trans h2, (hb.cell hlt).trans h3, (hb.cell hlt).trans h4⟩
theorem ownN_row {w : World} {B : Nat} {a : Option Addr} {n c : Nat} {l : List Nd} (h : OwnN w B (.slice a n c) l) : NdRow w a l ∧ n = l.length := by
  rcases ownN_form h with ⟨h1, rfl⟩ | ⟨g, cap, h1⟩
  · injection h1 with h1 h2
    exact ⟨fun i hi => by simp at hi, h2⟩
  · injection h1 with h1 h2 h3
    subst h1 h2 h3
    refine ⟨fun i hi => ?_, rfl⟩
    have key : ∀ j, j < 5 → w.cell? ⟨g, i * 5 + j, none⟩ = (ndV l[i])[j]? := fun j hj => by
      have hc := World.ownsRow.cellAt (show w.ownsRow B 38 5 _ l.length (nv l) from h) (i * 5 + j) (by omega)
      rw [hc]
      exact nv_at l i hi j hj
    refine ⟨g, 0, rfl, ?_, ?_, ?_, ?_, ?_⟩
    · rw [Nat.zero_add]; exact key 0 (by omega)
    · rw [Nat.zero_add]; exact key 1 (by omega)
    · rw [Nat.zero_add]; exact key 2 (by omega)
    · rw [Nat.zero_add]; exact key 3 (by omega)
    · rw [Nat.zero_add]; exact key 4 (by omega)
/-- One node appended. -/
theorem appendN_one (w : World) (B : Nat) (v : Value) (l : List Nd) (e : Nd) (g : Nat) (hown : OwnN w B v l) (hg : w.heap[g]? = some (.cells #[.int .i64 e.dep, .int .i64 e.cls, .bool e.made, .int .i64 e.tag, .string e.body] 38 (0, 0))) (hB : B ≤ w.heap.size) (hl : l.length ≤ 4294967296) :
    ∃ g' cap w', (Builtin.append_ #[40, 40] 40 #[v, .slice (some ⟨g, 0, none⟩) 1 1]).run Tryd.prog w = .ok (.slice (some ⟨g', 0, none⟩) (l.length + 1) cap) w' ∧ OwnN w' B (.slice (some ⟨g', 0, none⟩) (l.length + 1) cap) (l ++ [e]) ∧ w.grownBy w' v.ownBlock := by
  obtain ⟨i0, hi, hz0, hz1, hz2⟩ := info_parts info_node
  obtain ⟨g', cap, w', hr, h2, h3, _, _⟩ := run_append_lies (P := Tryd.prog) w 40 40 B 38 i0 _ 5 48 Tryd.underlying40 hi hz0 hz1 hz2 rfl (by decide) v l.length (nv l) hown ⟨g, 0, none⟩ 1 1 (ndV e) rfl (World.news_of_block hg) (ndV_one e) (by decide) (by unfold maxLen; omega) (by omega) hB w.heap.size rfl
  refine ⟨g', cap, w', hr, ?_, h3⟩
  unfold OwnN
  rw [nv_snoc, List.length_append]
  exact h2

/-- Only the named blocks may have turned. -/
def Ch (ks : Nat → Prop) (W W' : World) : Prop := W'.os = W.os ∧ W'.tape = W.tape ∧ W'.output = W.output ∧ W.heap.size ≤ W'.heap.size ∧ ∀ k, k < W.heap.size → ¬ ks k → W'.heap[k]? = W.heap[k]?
theorem Ch.of_below {ks : Nat → Prop} {W W' : World} (h : Below W.heap.size W W') : Ch ks W W' := ⟨h.os, h.tape, h.output, h.size, fun k hk _ => h.block k hk⟩
theorem Ch.trans {ks : Nat → Prop} {A B C : World} (h : Ch ks A B) (h' : Ch ks B C) : Ch ks A C := by
  obtain ⟨a1, a2, a3, a4, a5⟩ := h
  obtain ⟨b1, b2, b3, b4, b5⟩ := h'
  exact ⟨b1.trans a1, b2.trans a2, b3.trans a3, Nat.le_trans a4 b4, fun k hk hn => (b5 k (by omega) hn).trans (a5 k hk hn)⟩
theorem Ch.set {ks : Nat → Prop} (W : World) (p : Addr) (v : Value) (h : ks p.block) : Ch ks W (W.setCell p v) := ⟨rfl, rfl, rfl, by rw [World.size_setCell]; exact Nat.le_refl _, fun k _ hn => Below.heap_setCell _ _ _ _ (fun e => hn (by rw [e]; exact h))⟩
theorem Ch.of_grown {ks : Nat → Prop} {W W' : World} {row : Option Nat} (h : W.grownBy W' row) (hr : ∀ r, row = some r → ks r) : Ch ks W W' := ⟨h.os, h.tape, h.output, h.size, fun k hk hn => h.block k hk (fun e => hn (hr k e.symm))⟩
theorem Ch.below {ks : Nat → Prop} {W W' : World} {B : Nat} (h : Ch ks W W') (hB : B ≤ W.heap.size) (hk : ∀ k, ks k → B ≤ k) : Below B W W' := ⟨h.1, h.2.1, h.2.2.1, h.2.2.2.1, fun k hlt => h.2.2.2.2 k (by omega) (fun e => by have := hk k e; omega)⟩
theorem Ch.keeps {ks : Nat → Prop} {W W' : World} {B : Nat} (h : Ch ks W W') (hc : ∀ k o, ks k → B ≤ k → W.heap[k]? = some o → o.isCells = true) : KeepsFrom B W W' :=
  ⟨h.2.2.2.1, fun k o hk h1 h2 => (h.2.2.2.2 k (Array.getElem?_eq_some_iff.1 h1).1 (fun e => by have := hc k o e hk h1; rw [h2] at this; cases this)).trans h1⟩
theorem Ch.kw {ks : Nat → Prop} {W W' : World} (h : Ch ks W W') (hc : ∀ k cs t, ks k → W.heap[k]? = some (.cells cs t (0, 0)) → t ≠ 115 ∧ t ≠ 99) : KW W W' :=
  ⟨h.2.2.2.1, fun k cs t ht hk => (h.2.2.2.2 k (Array.getElem?_eq_some_iff.1 hk).1 (fun e => by obtain ⟨h1, h2⟩ := hc k cs t e hk; rcases ht with ht | ht <;> contradiction)).trans hk⟩

/-- The node that is made of an element. -/
def ndOf (s : ByteArray) (x : El) : Nd := ⟨(x.2.2 : Int), (x.2.1.cls : Int), x.2.1.made, (x.2.1.tag : Int), if x.2.1.made = true then ⟨#[]⟩ else s.extract (x.1 + x.2.1.size) (x.1 + x.2.1.size + x.2.1.len)⟩
abbrev ndA (e : Nd) : Value := .agg #[.int .i64 e.dep, .int .i64 e.cls, .bool e.made, .int .i64 e.tag, .string e.body]
set_option maxRecDepth 100000 in
set_option maxHeartbeats 2000000 in
theorem node_any (s : ByteArray) (h : Hd) (d p : Nat) (w : World) (hp : p ≤ 281474976710656) (h1 : h.size ≤ 6) (h2 : h.len < 4294967296) (h3 : p + h.size + h.len ≤ s.size) :
    Calls Tryd.prog 56 #[elmV h (d : Int), .string s, .int .i64 (p : Int)] w fun r w' => r = .returned (ndA (ndOf s (p, h, d))) ∧ Below w.heap.size w w' := by
  have hC : ∀ W, Hid (Calls Tryd.prog 72 #[elmV h (d : Int), .string s, .int .i64 (p : Int)] W fun r w' => r = .returned (.string (s.extract (p + h.size) (p + h.size + h.len))) ∧ Below W.heap.size W w') := fun W => content_any s h (d : Int) p W hp h1 h2 h3
  by_cases hm : h.made = true
  · have hv : Hid (ndA (ndOf s (p, h, d)) = .agg #[.int .i64 (d : Int), .int .i64 (h.cls : Int), .bool true, .int .i64 (h.tag : Int), .string ⟨#[]⟩]) := by
      unfold Hid ndA ndOf
      simp only [hm, if_true]
    rw [hv.out]
    obtain ⟨c, md, t, ln, sz⟩ := h
    dsimp only at hm
    subst hm
    clear hv hC hp h1 h2 h3
    go_enter Tryd.func56, Tryd.ntmps56
    go_wp2_with fail
    refine bodyPost_ret_by (v := .agg #[.int .i64 (d : Int), .int .i64 (c : Int), .bool true, .int .i64 (t : Int), .string ⟨#[]⟩]) ?_ rfl ⟨rfl, ?_⟩
    · simp [results, Tryd.results56, go_sem]
    · repeat' first | exact Below.refl _ _ | refine Below.setCell ?_ (by first | (simp; done) | (simp; omega)) _ | refine Below.alloc ?_ (by first | (simp; done) | (simp; omega)) _
  · have hmf : h.made = false := by simpa using hm
    obtain ⟨X, hX⟩ : ∃ X, s.extract (p + h.size) (p + h.size + h.len) = X := ⟨_, rfl⟩
    have hv : Hid (ndA (ndOf s (p, h, d)) = .agg #[.int .i64 (d : Int), .int .i64 (h.cls : Int), .bool false, .int .i64 (h.tag : Int), .string X]) := by
      unfold Hid ndA ndOf
      simp only [hmf, ← hX]
      rfl
    rw [hv.out]
    rw [hX] at hC
    obtain ⟨c, md, t, ln, sz⟩ := h
    dsimp only at hmf
    subst hmf
    clear hv hp h1 h2 h3 hX hm
    go_enter Tryd.func56, Tryd.ntmps56
    go_wp2_with fail
    refine (hC _).out.mono ?_
    rintro r w1 ⟨rfl, hb⟩
    have n0 : w.heap.size + 2 < w1.heap.size := by have := hb.size; simp at this; omega
    have n1 : w.heap.size + 1 < w1.heap.size := by omega
    have n1' : w.heap.size + 1 + 1 < w1.heap.size := by omega
    have c0 : w1.cell? ⟨w.heap.size + 1, 0, none⟩ = some (.int .i64 0) := by rw [hb.cell (by simp)]; simp [go_sem]
    have f0 : w1.frozen? ⟨w.heap.size + 1, 0, none⟩ = false := by rw [hb.frozen (by simp)]; simp [go_sem]
    have e0 : w1.cell? ⟨w.heap.size + 1 + 1, 0, none⟩ = some (.int .i64 (d : Int)) := by rw [hb.cell (by simp)]; simp [go_sem]
    have z0 : w1.frozen? ⟨w.heap.size + 1 + 1, 0, none⟩ = false := by rw [hb.frozen (by simp)]; simp [go_sem]
    have c1 : w1.cell? ⟨w.heap.size + 1, 1, none⟩ = some (.int .i64 0) := by rw [hb.cell (by simp)]; simp [go_sem]
    have f1 : w1.frozen? ⟨w.heap.size + 1, 1, none⟩ = false := by rw [hb.frozen (by simp)]; simp [go_sem]
    have e1 : w1.cell? ⟨w.heap.size + 1 + 1, 1, none⟩ = some (.int .i64 (c : Int)) := by rw [hb.cell (by simp)]; simp [go_sem]
    have z1 : w1.frozen? ⟨w.heap.size + 1 + 1, 1, none⟩ = false := by rw [hb.frozen (by simp)]; simp [go_sem]
    have c2 : w1.cell? ⟨w.heap.size + 1, 2, none⟩ = some (.bool false) := by rw [hb.cell (by simp)]; simp [go_sem]
    have f2 : w1.frozen? ⟨w.heap.size + 1, 2, none⟩ = false := by rw [hb.frozen (by simp)]; simp [go_sem]
    have e2 : w1.cell? ⟨w.heap.size + 1 + 1, 2, none⟩ = some (.bool false) := by rw [hb.cell (by simp)]; simp [go_sem]
    have z2 : w1.frozen? ⟨w.heap.size + 1 + 1, 2, none⟩ = false := by rw [hb.frozen (by simp)]; simp [go_sem]
    have c3 : w1.cell? ⟨w.heap.size + 1, 3, none⟩ = some (.int .i64 0) := by rw [hb.cell (by simp)]; simp [go_sem]
    have f3 : w1.frozen? ⟨w.heap.size + 1, 3, none⟩ = false := by rw [hb.frozen (by simp)]; simp [go_sem]
    have e3 : w1.cell? ⟨w.heap.size + 1 + 1, 3, none⟩ = some (.int .i64 (t : Int)) := by rw [hb.cell (by simp)]; simp [go_sem]
    have z3 : w1.frozen? ⟨w.heap.size + 1 + 1, 3, none⟩ = false := by rw [hb.frozen (by simp)]; simp [go_sem]
    have c4 : w1.cell? ⟨w.heap.size + 1, 4, none⟩ = some (.string ⟨#[]⟩) := by rw [hb.cell (by simp)]; simp [go_sem]
    have f4 : w1.frozen? ⟨w.heap.size + 1, 4, none⟩ = false := by rw [hb.frozen (by simp)]; simp [go_sem]
    have e4 : w1.cell? ⟨w.heap.size + 1 + 1, 4, none⟩ = some (.string ⟨#[]⟩) := by rw [hb.cell (by simp)]; simp [go_sem]
    have z4 : w1.frozen? ⟨w.heap.size + 1 + 1, 4, none⟩ = false := by rw [hb.frozen (by simp)]; simp [go_sem]
    have HB : Below w.heap.size w w1 := ((((Below.refl _ _).alloc (Nat.le_refl _) _).alloc (by simp) _).alloc (by simp; omega) _).trans (hb.mono (by simp; omega))
    clear hb
    go_wp2_with fail
    refine bodyPost_ret_by (v := .agg #[.int .i64 (d : Int), .int .i64 (c : Int), .bool false, .int .i64 (t : Int), .string X]) ?_ rfl ⟨rfl, ?_⟩
    · simp [results, Tryd.results56, go_sem, c0, c1, c2, c3, c4]
    · repeat' first | exact HB | refine Below.setCell ?_ (by first | exact Nat.le_succ _ | exact Nat.le_add_right _ 2) _
end Go.Proofs.YtkiidlnimjjnlaaDoor
