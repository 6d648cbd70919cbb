import Derived.Test.YtofghgggllfafaaDoorFgMv
import Derived.Test.YtofghgggllfafaaDoorFlDep
namespace Go.Proofs.YtofghgggllfafaaDoor
open Go.RowKit
set_option linter.unusedVariables false

theorem chkL_dep : ∀ (t r : List Nod) (k : Nat), okc r → (chkL r t k).1 = 0 → ∀ x ∈ t, 1 ≤ x.dep ∧ x.dep ≤ 64
  | [], _, _, _, _, x, hx => by cases hx
  | n :: t, r, k, ho, h, x, hx => by
    unfold chkL at h
    by_cases he : er r n t = 0
    · rw [if_pos he] at h
      have ho' := okc_step ho he
      rcases List.mem_cons.1 hx with rfl | hx
      · exact ho'.2 _ (List.mem_cons_self ..)
      · exact chkL_dep t (n :: r) (k + 1) ho' h x hx
    · rw [if_neg he] at h
      exact absurd h he
theorem chk_dep {xs : List Nod} (h : (chkF xs).1 = 0) : ∀ x ∈ xs, 1 ≤ x.dep ∧ x.dep ≤ 64 := by
  unfold chkF at h
  by_cases e : xs = []
  · rw [if_pos e] at h; cases h
  · rw [if_neg e] at h
    exact chkL_dep xs [] 0 okc_nil h
theorem dpt_spec : ∀ (xs : List Nod) (d : Int), d ≤ xs.foldl (fun d x => if d < x.dep then x.dep else d) d ∧ (∀ x ∈ xs, x.dep ≤ xs.foldl (fun d x => if d < x.dep then x.dep else d) d) ∧ (xs.foldl (fun d x => if d < x.dep then x.dep else d) d = d ∨ ∃ x ∈ xs, x.dep = xs.foldl (fun d x => if d < x.dep then x.dep else d) d)
  | [], d => ⟨Int.le_refl _, (fun x hx => by cases hx), Or.inl rfl⟩
  | y :: xs, d => by
    rw [List.foldl_cons]
    by_cases hd : d < y.dep
    · rw [if_pos hd]
      obtain ⟨h1, h2, h3⟩ := dpt_spec xs y.dep
      refine ⟨by omega, fun x hx => ?_, Or.inr ?_⟩
      · rcases List.mem_cons.1 hx with rfl | hx
        · exact h1
        · exact h2 x hx
      · rcases h3 with h3 | ⟨x, hx, e⟩
        · exact ⟨y, List.mem_cons_self .., h3.symm⟩
        · exact ⟨x, List.mem_cons_of_mem _ hx, e⟩
    · rw [if_neg hd]
      obtain ⟨h1, h2, h3⟩ := dpt_spec xs d
      refine ⟨h1, fun x hx => ?_, ?_⟩
      · rcases List.mem_cons.1 hx with rfl | hx
        · omega
        · exact h2 x hx
      · rcases h3 with h3 | ⟨x, hx, e⟩
        · exact Or.inl h3
        · exact Or.inr ⟨x, List.mem_cons_of_mem _ hx, e⟩
theorem dpt_ge (xs : List Nod) : 0 ≤ dpt xs ∧ (∀ x ∈ xs, x.dep ≤ dpt xs) ∧ (dpt xs = 0 ∨ ∃ x ∈ xs, x.dep = dpt xs) := dpt_spec xs 0
/-- The greatest depth of several lists. -/
def md (fs : List (List Nod)) : Int := fs.foldl (fun d f => max d (dpt f)) 0
theorem md_snoc (fs : List (List Nod)) (f : List Nod) : md (fs ++ [f]) = max (md fs) (dpt f) := by simp [md]
theorem md_spec (fs : List (List Nod)) : 0 ≤ md fs ∧ (∀ f ∈ fs, dpt f ≤ md fs) ∧ (md fs = 0 ∨ ∃ f ∈ fs, dpt f = md fs) := by
  have key : ∀ (fs : List (List Nod)) (d : Int), d ≤ fs.foldl (fun d f => max d (dpt f)) d ∧ (∀ f ∈ fs, dpt f ≤ fs.foldl (fun d f => max d (dpt f)) d) ∧ (fs.foldl (fun d f => max d (dpt f)) d = d ∨ ∃ f ∈ fs, dpt f = fs.foldl (fun d f => max d (dpt f)) d) := fun fs => by
    induction fs with
    | nil => exact fun d => ⟨Int.le_refl _, (fun x hx => by cases hx), Or.inl rfl⟩
    | cons y fs ih =>
      intro d
      rw [List.foldl_cons]
      obtain ⟨h1, h2, h3⟩ := ih (max d (dpt y))
      refine ⟨by omega, fun x hx => ?_, ?_⟩
      · rcases List.mem_cons.1 hx with rfl | hx
        · omega
        · exact h2 x hx
      · rcases h3 with h3 | ⟨x, hx, e⟩
        · rw [h3]
          rcases Int.le_total d (dpt y) with h | h
          · exact Or.inr ⟨y, List.mem_cons_self .., by omega⟩
          · exact Or.inl (by omega)
        · exact Or.inr ⟨x, List.mem_cons_of_mem _ hx, e⟩
  exact key fs 0
/-- The first error. -/
def fe : List (List Nod) → Int
  | [] => 0
  | f :: r => if (chkF f).1 = 0 then fe r else (chkF f).1
theorem fe_app (a b : List (List Nod)) (h : fe a = 0) : fe (a ++ b) = fe b := by
  induction a with
  | nil => rfl
  | cons f a ih =>
    unfold fe at h
    by_cases hf : (chkF f).1 = 0
    · rw [if_pos hf] at h
      rw [List.cons_append]
      show (if (chkF f).1 = 0 then fe (a ++ b) else (chkF f).1) = fe b
      rw [if_pos hf, ih h]
    · rw [if_neg hf] at h
      exact absurd h hf
theorem fe_mem {fs : List (List Nod)} (h : fe fs = 0) : ∀ f ∈ fs, (chkF f).1 = 0 := by
  induction fs with
  | nil => exact fun f hf => by cases hf
  | cons g fs ih =>
    unfold fe at h
    by_cases hg : (chkF g).1 = 0
    · rw [if_pos hg] at h
      intro f hf
      rcases List.mem_cons.1 hf with rfl | hf
      · exact hg
      · exact ih h f hf
    · rw [if_neg hg] at h
      exact absurd h hg
def hdN (op : Int) : Nod := ⟨1, op, [], [], [], none, 0, [], [], [], false⟩
/-- What a group says. -/
def outN (op : Int) (fs : List (List Nod)) := np (hdN op) :: fs.flatMap (fun f => f.map (fun x => np (dp 1 x)))
theorem outN_snoc (op : Int) (fs : List (List Nod)) (f : List Nod) : outN op (fs ++ [f]) = outN op fs ++ f.map (fun x => np (dp 1 x)) := by simp [outN]
/-- Its error. -/
def gR (op : Int) (fs : List (List Nod)) : Int := if hol op = false ∨ (op = 2 ∧ fs.length ≠ 1) then 1 else if fe fs ≠ 0 then fe fs else if 64 ≤ md fs then 121 else 0
def gL (op : Int) (fs : List (List Nod)) := if gR op fs = 0 then outN op fs else []
theorem gL_no {op : Int} {fs : List (List Nod)} (h : gR op fs ≠ 0) : gL op fs = [] := if_neg h
theorem gR_arg {op : Int} {fs : List (List Nod)} (h : hol op = false ∨ (op = 2 ∧ fs.length ≠ 1)) : gR op fs = 1 := if_pos h
theorem gR_chk {op : Int} {fs : List (List Nod)} (h : ¬ (hol op = false ∨ (op = 2 ∧ fs.length ≠ 1))) (he : fe fs ≠ 0) : gR op fs = fe fs := by
  unfold gR
  rw [if_neg h, if_pos he]
theorem gR_deep {op : Int} {fs : List (List Nod)} (h : ¬ (hol op = false ∨ (op = 2 ∧ fs.length ≠ 1))) (he : fe fs = 0) (hd : 64 ≤ md fs) : gR op fs = 121 := by
  unfold gR
  rw [if_neg h, if_neg (fun e => e he), if_pos hd]
theorem gR_ok {op : Int} {fs : List (List Nod)} (h : ¬ (hol op = false ∨ (op = 2 ∧ fs.length ≠ 1))) (he : fe fs = 0) (hd : ¬ 64 ≤ md fs) : gR op fs = 0 ∧ gL op fs = outN op fs := by
  have : gR op fs = 0 := by
    unfold gR
    rw [if_neg h, if_neg (fun e => e he), if_neg hd]
  exact ⟨this, if_pos this⟩
theorem wrap_dep {d : Int} (h : 1 ≤ d ∧ d ≤ 64) : wrap64 (d + 1) = d + 1 := by rw [IntWalk.wrap64_in] <;> omega
/-- The depth of the group is one more than the greatest. -/
theorem deep_iff {op : Int} {fs : List (List Nod)} {ys : List Nod} (he : fe fs = 0) (hy : ys.map np = outN op fs) : 64 < dpt ys ↔ 64 ≤ md fs := by
  obtain ⟨a1, a2, a3⟩ := dpt_ge ys
  obtain ⟨b1, b2, b3⟩ := md_spec fs
  have hc := fe_mem he
  constructor
  · intro h
    rcases a3 with a3 | ⟨y, hym, hyd⟩
    · omega
    · have hm : np y ∈ outN op fs := by rw [← hy]; exact List.mem_map.2 ⟨y, hym, rfl⟩
      unfold outN at hm
      rcases List.mem_cons.1 hm with hm | hm
      · have : y.dep = 1 := by simp only [np, hdN, Prod.mk.injEq] at hm; exact hm.1
        omega
      · obtain ⟨f, hf, hm⟩ := List.mem_flatMap.1 hm
        obtain ⟨x, hx, e⟩ := List.mem_map.1 hm
        have e1 : wrap64 (x.dep + 1) = y.dep := by simp only [np, dp, Prod.mk.injEq] at e; exact e.1
        have h1 := chk_dep (hc f hf) x hx
        rw [wrap_dep h1] at e1
        have h2 := (dpt_ge f).2.1 x hx
        have h3 := b2 f hf
        omega
  · intro h
    rcases b3 with b3 | ⟨f, hf, hfd⟩
    · omega
    · obtain ⟨c1, c2, c3⟩ := dpt_ge f
      rcases c3 with c3 | ⟨x, hx, hxd⟩
      · omega
      · have h1 := chk_dep (hc f hf) x hx
        have hm : np (dp 1 x) ∈ ys.map np := by
          rw [hy]
          unfold outN
          exact List.mem_cons_of_mem _ (List.mem_flatMap.2 ⟨f, hf, List.mem_map.2 ⟨x, hx, rfl⟩⟩)
        obtain ⟨y, hym, e⟩ := List.mem_map.1 hm
        have e1 : y.dep = wrap64 (x.dep + 1) := by simp only [np, dp, Prod.mk.injEq] at e; exact e.1
        rw [wrap_dep h1] at e1
        have := a2 y hym
        omega
theorem np_dp {x y : Nod} (h : np x = np y) (b : Int) : np (dp b x) = np (dp b y) := by
  simp only [np, dp, Prod.mk.injEq] at h ⊢
  obtain ⟨h1, h2, h3, h4, h5, h6, h7, h8, h9⟩ := h
  exact ⟨by rw [h1], h2, h3, h4, h5, h6, h7, h8, h9⟩
theorem map_dp {xs ys : List Nod} (h : xs.map np = ys.map np) (b : Int) : xs.map (fun x => np (dp b x)) = ys.map (fun x => np (dp b x)) := by
  induction xs generalizing ys with
  | nil => cases ys with
    | nil => rfl
    | cons y ys => simp at h
  | cons x xs ih => cases ys with
    | nil => simp at h
    | cons y ys =>
      simp only [List.map_cons, List.cons.injEq] at h ⊢
      exact ⟨np_dp h.1 b, ih h.2⟩
/-- Lists that say the same are grouped alike. -/
theorem gR_np {op : Int} : ∀ {fs gs : List (List Nod)}, fs.map (List.map np) = gs.map (List.map np) → gR op fs = gR op gs ∧ gL op fs = gL op gs := by
  intro fs gs h
  have hl : fs.length = gs.length := by simpa using congrArg List.length h
  have key : ∀ (fs gs : List (List Nod)), fs.map (List.map np) = gs.map (List.map np) → fe fs = fe gs ∧ (∀ d, fs.foldl (fun d f => max d (dpt f)) d = gs.foldl (fun d f => max d (dpt f)) d) ∧ fs.flatMap (fun f => f.map (fun x => np (dp 1 x))) = gs.flatMap (fun f => f.map (fun x => np (dp 1 x))) := fun fs => by
    induction fs with
    | nil =>
      intro gs h
      cases gs with
      | nil => exact ⟨rfl, fun d => rfl, rfl⟩
      | cons g gs => simp at h
    | cons f fs ih =>
      intro gs h
      cases gs with
      | nil => simp at h
      | cons g gs =>
        simp only [List.map_cons, List.cons.injEq] at h
        obtain ⟨i1, i2, i3⟩ := ih gs h.2
        refine ⟨?_, fun d => ?_, ?_⟩
        · show (if (chkF f).1 = 0 then fe fs else (chkF f).1) = (if (chkF g).1 = 0 then fe gs else (chkF g).1)
          rw [chkF_np h.1, i1]
        · rw [List.foldl_cons, List.foldl_cons, dpt_np h.1, i2]
        · rw [List.flatMap_cons, List.flatMap_cons, map_dp h.1, i3]
  obtain ⟨h1, h2, h3⟩ := key fs gs h
  have hm : md fs = md gs := h2 0
  have hr : gR op fs = gR op gs := by
    unfold gR
    rw [hl, h1, hm]
  refine ⟨hr, ?_⟩
  unfold gL outN
  rw [hr, h3]
/-- A list of filters. -/
structure Fl where
  a : Option Addr
  c : Nat
  l : List Nod
def gV (x : Fl) : List Value := [.slice x.a x.l.length x.c]
theorem gV_len (x : Fl) : (gV x).length = 1 := rfl
/-- A row of filters, for reading. -/
def RdF (w : World) (a : Option Addr) (fs : List Fl) : Prop := GRow 1 gV w a fs ∧ ∀ f ∈ fs, FRow w f.a f.l
theorem RdF.below {w w' : World} {a : Option Addr} {fs : List Fl} (h : RdF w a fs) (hb : Below w.heap.size w w') : RdF w' a fs := ⟨h.1.below gV_len hb, fun f hf => (h.2 f hf).below hb⟩
theorem RdF.take {w : World} {a : Option Addr} {fs : List Fl} (h : RdF w a fs) (n : Nat) : RdF w a (fs.take n) := by
  refine ⟨?_, fun f hf => h.2 f (List.mem_of_mem_take hf)⟩
  have := h.1
  rw [← List.take_append_drop n fs] at this
  exact this.front
/-- No more than may be, together. -/
def sm (fs : List Fl) : Nat := (fs.map (fun f => f.l.length)).sum
def Sml (fs : List Fl) : Prop := sm fs ≤ 1048576 ∧ ∀ f ∈ fs, ∀ x ∈ f.l, x.l.length ≤ 1048576 ∧ x.desc.length ≤ 1048576 ∧ x.rule.length ≤ 1048576
theorem sm_take (fs : List Fl) (n : Nat) : sm (fs.take n) ≤ sm fs := by
  have := List.take_append_drop n fs
  have e : sm fs = sm (fs.take n) + sm (fs.drop n) := by
    conv => lhs; rw [← this]
    unfold sm
    rw [List.map_append, List.sum_append]
  omega
theorem sm_mem {fs : List Fl} {f : Fl} (h : f ∈ fs) : f.l.length ≤ sm fs := by
  induction fs with
  | nil => cases h
  | cons g fs ih =>
    unfold sm at *
    rw [List.map_cons, List.sum_cons]
    rcases List.mem_cons.1 h with rfl | h
    · omega
    · have := ih h
      omega
theorem Sml.take {fs : List Fl} (h : Sml fs) (n : Nat) : Sml (fs.take n) := ⟨Nat.le_trans (sm_take fs n) h.1, fun f hf => h.2 f (List.mem_of_mem_take hf)⟩
abbrev ls (fs : List Fl) : List (List Nod) := fs.map Fl.l
theorem outN_len (op : Int) (fs : List Fl) : (outN op (ls fs)).length = 1 + sm fs := by
  unfold outN sm ls
  rw [List.length_cons, List.length_flatMap, List.map_map]
  simp [Function.comp_def]
  omega

set_option maxRecDepth 100000 in
set_option maxHeartbeats 4000000 in
theorem rMoved_any (by' : Int) (xs : List Nod) (a : Option Addr) (c : Nat) (w : World) (hn : xs.length ≤ 1048576) (h : FRow w a xs) :
    Calls Tryd.prog 13 #[.slice a xs.length c, .int .i64 by'] w fun e w' => (∃ v, e = .returned v ∧ GOwn 38 9 nV w' w.heap.size v (xs.map (dp by'))) ∧ Below w.heap.size w w' := by
  have h' : Hid (FRow w a xs) := h
  clear h
  have hI0 : Hid (GOwn 38 9 nV w w.heap.size (.slice none 0 0) ((xs.take 0).map (dp by')) ∧ Below w.heap.size w w) := ⟨by simpa using GOwn.nil _ _ _ _ _, Below.refl _ _⟩
  go_enter Tryd.func13, Tryd.ntmps13
  go_wp2_with fail
  go_loopw [5, 6] (fun mv iv wr => ∃ (i : Nat), i ≤ xs.length ∧ iv = .int .i64 (i : Int) ∧ Hid (GOwn 38 9 nV wr w.heap.size mv ((xs.take i).map (dp by')) ∧ Below w.heap.size w wr)) (fun _ iv _ => xs.length - (intOf iv).toNat)
  case atStart => exact ⟨0, Nat.zero_le _, rfl, hI0⟩
  case round =>
    obtain ⟨i, hi, rfl, hI⟩ := hrel
    clear hI0
    obtain ⟨ma, mc, hmv, _⟩ := hI.out.1.row nV_len
    obtain ⟨ys, hys⟩ : ∃ ys, (xs.take i).map (dp by') = ys := ⟨_, rfl⟩
    rw [hys] at hI hmv
    have hyl : Hid (ys.length = i) := by unfold Hid; rw [← hys]; simp; omega
    subst hmv
    by_cases hlt : i < xs.length
    · obtain ⟨b, off, rfl, c0, c1, c2, c3, c4, c5, c6, c7, c8⟩ := (h'.out.below hI.out.2).at i hlt
      have i0 : (0 : Int) ≤ (i : Int) := Int.natCast_nonneg _
      have i1 : (i : Int) < (xs.length : Int) := Int.ofNat_lt.2 hlt
      have htk : Hid ((xs.take (i + 1)).map (dp by') = ys ++ [dp by' xs[i]]) := by unfold Hid; rw [List.take_succ_eq_append_getElem hlt, List.map_append, hys]; rfl
      obtain ⟨⟨xd, xo, xs', xv, xi, xa, xn, xl, xf, xr, xb⟩, hx⟩ : ∃ x, xs[i] = x := ⟨_, rfl⟩
      rw [hx] at c0 c1 c2 c3 c4 c5 c6 c7 c8 htk
      dsimp only at c0 c1 c2 c3 c4 c5 c6 c7 c8
      have hlt' : Hid (i < xs.length) := hlt
      obtain ⟨wA, hwA⟩ : ∃ W, wr.alloc (.cells #[.int .i64 xd, .int .i64 xo, .string (S xs'), .string (S xv), .string (S xi), .slice xa xl.length xn, .string (S xf), .string (S xr), .bool xb] 38) = W := ⟨_, rfl⟩
      have bA : Box wA wr.heap.size 38 #[.int .i64 xd, .int .i64 xo, .string (S xs'), .string (S xv), .string (S xi), .slice xa xl.length xn, .string (S xf), .string (S xr), .bool xb] := by rw [← hwA]; exact Box.new _ _ _
      have hbA : Below wr.heap.size wr wA := by rw [← hwA]; exact (Below.refl _ _).alloc (Nat.le_refl _) _
      obtain ⟨w3, hw3⟩ : ∃ W, wA.setCell ⟨wr.heap.size, 0, none⟩ (.int .i64 (wrap64 (xd + by'))) = W := ⟨_, rfl⟩
      have b3 : Box w3 wr.heap.size 38 #[.int .i64 (wrap64 (xd + by')), .int .i64 xo, .string (S xs'), .string (S xv), .string (S xi), .slice xa xl.length xn, .string (S xf), .string (S xr), .bool xb] := by rw [← hw3]; exact bA.set 0 _
      have hB3 : Below wr.heap.size wr w3 := by rw [← hw3]; exact hbA.setCell (p := ⟨wr.heap.size, 0, none⟩) (Nat.le_refl _) _
      obtain ⟨w4, hw4⟩ : ∃ W, w3.alloc (.cells #[.int .i64 (wrap64 (xd + by')), .int .i64 xo, .string (S xs'), .string (S xv), .string (S xi), .slice xa xl.length xn, .string (S xf), .string (S xr), .bool xb] 38) = W := ⟨_, rfl⟩
      have b4 : Box w4 w3.heap.size 38 (nV (dp by' ⟨xd, xo, xs', xv, xi, xa, xn, xl, xf, xr, xb⟩)).toArray := by rw [← hw4]; exact Box.new _ _ _
      have hb4 : Below w3.heap.size w3 w4 := by rw [← hw4]; exact (Below.refl _ _).alloc (Nat.le_refl _) _
      have hB4' : Below wr.heap.size wr w4 := hB3.trans (hb4.mono hB3.size)
      have hO4 : GOwn 38 9 nV w4 w.heap.size (.slice ma ys.length mc) ys := owns_same (show wr.ownsRow w.heap.size 38 9 _ _ _ from hI.out.1) (fun b hb => hB4'.block b (World.ownsRow.lt (show wr.ownsRow w.heap.size 38 9 _ _ _ from hI.out.1) b hb).2)
      have hB4 : Below w.heap.size w w4 := hI.out.2.trans (hB4'.mono hI.out.2.size)
      have hs4 : w.heap.size ≤ w4.heap.size := hB4.size
      have hyn : (ys.length + 1) * 128 ≤ 140737488355328 := by have := hyl.out; omega
      have e0 : wA.cell? ⟨wr.heap.size, 0, none⟩ = some (.int .i64 xd) := (bA.cell 0 (by simp)).1
      have z0 : wA.frozen? ⟨wr.heap.size, 0, none⟩ = false := (bA.cell 0 (by simp)).2
      have K3 : Hid (wA.setCell ⟨wr.heap.size, 0, none⟩ (.int .i64 (wrap64 (xd + by'))) = w3) := hw3
      have K4 : Hid (w3.alloc (.cells #[.int .i64 (wrap64 (xd + by')), .int .i64 xo, .string (S xs'), .string (S xv), .string (S xi), .slice xa xl.length xn, .string (S xf), .string (S xr), .bool xb] 38) = w4) := hw4
      clear hbA bA hB3 hb4 hB4' hx hlt hw3 hw4 hI hys
      go_upto_region 6 with fail
      clear c0 c1 c2 c3 c4 c5 c6 c7 c8 hwA
      go_upto_region 7 with fail
      rw [K3.out]
      clear e0 z0
      have hw4 := K4.out
      go_wp2_with (first | (refine load_n rfl _ rfl wr.heap.size rfl b3 rfl ?_) | (at_builtin; refine push_gen kd_nod _ rfl _ _ rfl w.heap.size _ ys (dp by' ⟨xd, xo, xs', xv, xi, xa, xn, xl, xf, xr, xb⟩) w3.heap.size rfl rfl hO4 b4 hs4 hyn (by decide) ?_; intro g' cap' w5 hO5 hk5 hb5))
      have hfin : Hid (GOwn 38 9 nV w5 w.heap.size (.slice (some ⟨g', 0, none⟩) (ys.length + 1) cap') ((xs.take (i + 1)).map (dp by')) ∧ Below w.heap.size w w5) := ⟨by rw [htk.out]; exact hO5, hB4.trans hb5⟩
      go_roundw
      case rel => exact ⟨i + 1, hlt'.out, by simp, hfin⟩
      case measure => have := hlt'.out; simp [intOf]; omega
    · have hie : i = xs.length := by omega
      subst hie
      rw [List.take_length] at hys
      have k1 : ¬ (xs.length : Int) < (xs.length : Int) := by omega
      go_wp2_with fail
      go_ret
      exact ⟨⟨_, rfl, hI.out.1⟩, hI.out.2⟩
end Go.Proofs.YtofghgggllfafaaDoor
