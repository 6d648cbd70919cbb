import Derived.Test.YtoomoicjoockjaaGreatDoorRows
import Derived.Test.YtoomoicjoockjaaGreatDoorBytes
import Derived.Test.YtoomoicjoockjaaGreatDoorGMap
import Derived.BigQuiet
namespace Go.Proofs.YtoomoicjoockjaaGreatDoor
namespace TextMath

def lo (b : UInt8) : UInt8 := if 65 ≤ b.toNat ∧ b.toNat ≤ 90 then UInt8.ofNat (b.toNat + 32) else b
def bl (b : UInt8) : Bool := decide (b.toNat = 32) || (decide (9 ≤ b.toNat) && decide (b.toNat ≤ 13))

theorem lo_toNat (b : UInt8) : (lo b).toNat = if 65 ≤ b.toNat ∧ b.toNat ≤ 90 then b.toNat + 32 else b.toNat := by
  unfold lo; split
  · rw [UInt8.toNat_ofNat']; omega
  · rfl
theorem lo_lo (b : UInt8) : lo (lo b) = lo b := by
  apply UInt8.toNat_inj.1
  rw [lo_toNat, lo_toNat]; repeat' split
  all_goals omega
theorem bl_lo (b : UInt8) : bl (lo b) = bl b := by
  have := lo_toNat b
  unfold bl
  rw [Bool.eq_iff_iff]; simp only [Bool.or_eq_true, Bool.and_eq_true, decide_eq_true_eq]
  split at this <;> omega
theorem lo_32 : lo 32 = 32 := by decide
theorem bl_32 : bl 32 = true := by decide

def fold (l : List UInt8) : List UInt8 := l.map lo
/-- Collapse: the text that is left, and whether a run has begun. -/
def col : Bool → List UInt8 → List UInt8
  | _, [] => []
  | r, b :: t => if bl b then (if r then col true t else 32 :: col true t) else b :: col false t
def trimP (l : List UInt8) : List UInt8 := if l.head? = some 32 then l.drop 1 else l
def trimS (l : List UInt8) : List UInt8 := if l.getLast? = some 32 then l.dropLast else l
def squeeze (l : List UInt8) : List UInt8 := trimS (trimP (col false l))
def normal (l : List UInt8) : List UInt8 := squeeze (fold l)

def sqB : Bool → List UInt8 → List UInt8
  | _, [] => []
  | p, b :: t => if bl b then sqB true t else (if p then [32, b] else [b]) ++ sqB false t
def sqA : List UInt8 → List UInt8
  | [] => []
  | b :: t => if bl b then sqA t else b :: sqB false t

theorem ne32 {b : UInt8} (h : bl b = false) : b ≠ 32 := by rintro rfl; rw [bl_32] at h; cases h

theorem trimS_snoc (p : List UInt8) (x : UInt8) (h : x ≠ 32) : trimS (p ++ [x]) = p ++ [x] := by
  unfold trimS; rw [if_neg]; simp [h]
theorem trimS_sp (p : List UInt8) : trimS (p ++ [32]) = p := by
  unfold trimS; rw [if_pos (by simp)]; simp

theorem trimS_col (l : List UInt8) : (∀ p x, x ≠ 32 → trimS (p ++ [x] ++ col false l) = p ++ [x] ++ sqB false l) ∧ (∀ p x, x ≠ 32 → trimS (p ++ [x] ++ [32] ++ col true l) = p ++ [x] ++ sqB true l) := by
  induction l with
  | nil => exact ⟨fun p x h => by simp [col, sqB, trimS_snoc p x h], fun p x h => by simp only [col, sqB, List.append_nil]; exact trimS_sp _⟩
  | cons b t ih =>
    by_cases hb : bl b = true
    · refine ⟨fun p x h => ?_, fun p x h => ?_⟩
      · simp only [col, sqB, hb, if_true]
        have := ih.2 p x h
        simpa using this
      · simp only [col, sqB, hb, if_true]
        exact ih.2 p x h
    · have hb' : bl b = false := by simpa using hb
      refine ⟨fun p x h => ?_, fun p x h => ?_⟩
      · simp only [col, sqB, hb', Bool.false_eq_true, if_false]
        have := ih.1 (p ++ [x]) b (ne32 hb')
        simpa using this
      · simp only [col, sqB, hb', Bool.false_eq_true, if_false, if_true]
        have := ih.1 (p ++ [x] ++ [32]) b (ne32 hb')
        simpa using this

theorem trimS_colT (l : List UInt8) : trimS (col true l) = sqA l := by
  induction l with
  | nil => rfl
  | cons b t ih =>
    by_cases hb : bl b = true
    · simp only [col, sqA, hb, if_true]; exact ih
    · have hb' : bl b = false := by simpa using hb
      simp only [col, sqA, hb', Bool.false_eq_true, if_false]
      have := (trimS_col t).1 [] b (ne32 hb')
      simpa using this

theorem squeeze_eq (l : List UInt8) : squeeze l = sqA l := by
  unfold squeeze
  cases l with
  | nil => rfl
  | cons b t =>
    by_cases hb : bl b = true
    · simp only [col, sqA, hb, if_true, Bool.false_eq_true, if_false]
      have : trimP (32 :: col true t) = col true t := by simp [trimP]
      rw [this, trimS_colT]
    · have hb' : bl b = false := by simpa using hb
      simp only [col, sqA, hb', Bool.false_eq_true, if_false]
      have : trimP (b :: col false t) = b :: col false t := by
        unfold trimP; rw [if_neg]; simp [ne32 hb']
      rw [this]
      have := (trimS_col t).1 [] b (ne32 hb')
      simpa using this

theorem fold_fold (l : List UInt8) : fold (fold l) = fold l := by
  unfold fold; rw [List.map_map]; apply List.map_congr_left; intro b _; exact lo_lo b
theorem fold_sqB (l : List UInt8) : ∀ p, fold (sqB p l) = sqB p (fold l) := by
  induction l with
  | nil => intro p; rfl
  | cons b t ih =>
    intro p
    simp only [sqB, fold, List.map_cons, bl_lo] at ih ⊢
    by_cases hb : bl b = true
    · simp only [hb, if_true]; exact ih true
    · cases p <;> simp [hb, ih, lo_32]
theorem fold_sqA (l : List UInt8) : fold (sqA l) = sqA (fold l) := by
  induction l with
  | nil => rfl
  | cons b t ih =>
    have := fold_sqB t false
    simp only [sqA, fold, List.map_cons, bl_lo] at ih this ⊢
    by_cases hb : bl b = true
    · simp only [hb, if_true]; exact ih
    · simp [hb, this]

theorem sqB_sqB (l : List UInt8) : ∀ p, sqB false (sqB p l) = sqB p l := by
  induction l with
  | nil => intro p; rfl
  | cons b t ih =>
    intro p
    by_cases hb : bl b = true
    · simp only [sqB, hb, if_true]; exact ih true
    · have hb' : bl b = false := by simpa using hb
      cases p
      · simp [sqB, hb', ih]
      · simp [sqB, hb', ih, bl_32]
theorem sqA_sqA (l : List UInt8) : sqA (sqA l) = sqA l := by
  induction l with
  | nil => rfl
  | cons b t ih =>
    by_cases hb : bl b = true
    · simp only [sqA, hb, if_true]; exact ih
    · have hb' : bl b = false := by simpa using hb
      simp [sqA, hb', sqB_sqB]
theorem col_sqB (l : List UInt8) : ∀ p, col false (sqB p l) = sqB p l := by
  induction l with
  | nil => intro p; rfl
  | cons b t ih =>
    intro p
    by_cases hb : bl b = true
    · simp only [sqB, hb, if_true]; exact ih true
    · have hb' : bl b = false := by simpa using hb
      cases p
      · simp [sqB, col, hb', ih]
      · simp [sqB, col, hb', ih, bl_32]
theorem col_sqA (l : List UInt8) : col false (sqA l) = sqA l := by
  induction l with
  | nil => rfl
  | cons b t ih =>
    by_cases hb : bl b = true
    · simp only [sqA, hb, if_true]; exact ih
    · have hb' : bl b = false := by simpa using hb
      simp [sqA, col, hb', col_sqB]
theorem sqB_col (l : List UInt8) : (∀ p, sqB p (col false l) = sqB p l) ∧ sqB true (col true l) = sqB true l := by
  induction l with
  | nil => exact ⟨fun _ => rfl, rfl⟩
  | cons b t ih =>
    by_cases hb : bl b = true
    · refine ⟨fun p => ?_, ?_⟩
      · simp [col, sqB, hb, bl_32, ih.2]
      · simp [col, sqB, hb, ih.2]
    · have hb' : bl b = false := by simpa using hb
      refine ⟨fun p => ?_, ?_⟩
      · simp [col, sqB, hb', ih.1]
      · simp [col, sqB, hb', ih.1]
theorem sqA_col (l : List UInt8) : ∀ r, sqA (col r l) = sqA l := by
  induction l with
  | nil => intro r; rfl
  | cons b t ih =>
    intro r
    by_cases hb : bl b = true
    · cases r <;> simp [col, sqA, hb, bl_32, ih]
    · have hb' : bl b = false := by simpa using hb
      simp [col, sqA, hb', (sqB_col t).1]
theorem sqB_true (l : List UInt8) : sqB true l = if sqA l = [] then [] else 32 :: sqA l := by
  induction l with
  | nil => rfl
  | cons b t ih =>
    by_cases hb : bl b = true
    · simp only [sqB, sqA, hb, if_true]; exact ih
    · have hb' : bl b = false := by simpa using hb
      simp [sqB, sqA, hb']
theorem sqB_app (a b : List UInt8) (c : UInt8) (hc : bl c = true) : ∀ p, sqB p (a ++ c :: b) = sqB p a ++ sqB true b := by
  induction a with
  | nil => intro p; simp [sqB, hc]
  | cons x t ih =>
    intro p
    by_cases hb : bl x = true
    · simp [sqB, hb, ih]
    · have hb' : bl x = false := by simpa using hb
      simp [sqB, hb', ih]
def join (n m : List UInt8) : List UInt8 := if n = [] ∨ m = [] then n ++ m else n ++ [32] ++ m
theorem sqA_app (a b : List UInt8) (c : UInt8) (hc : bl c = true) : sqA (a ++ c :: b) = join (sqA a) (sqA b) := by
  induction a with
  | nil => simp [sqA, hc, join]
  | cons x t ih =>
    by_cases hb : bl x = true
    · simp only [List.cons_append, sqA, hb, if_true]; exact ih
    · have hb' : bl x = false := by simpa using hb
      simp only [List.cons_append, sqA, hb', Bool.false_eq_true, if_false, join, sqB_app t b c hc, sqB_true b]
      by_cases h : sqA b = [] <;> simp [h]

theorem normal_eq (l : List UInt8) : normal l = sqA (fold l) := squeeze_eq _
theorem fold_normal (l : List UInt8) : fold (normal l) = normal l := by rw [normal_eq, fold_sqA, fold_fold]
theorem normal_normal (l : List UInt8) : normal (normal l) = normal l := by
  rw [normal_eq (normal l), fold_normal, normal_eq, sqA_sqA]
theorem col_normal (l : List UInt8) : col false (normal l) = normal l := by rw [normal_eq, col_sqA]
theorem squeeze_normal (l : List UInt8) : squeeze (normal l) = normal l := by rw [squeeze_eq, normal_eq, sqA_sqA]
theorem normal_fold (l : List UInt8) : normal (fold l) = normal l := by rw [normal_eq, normal_eq, fold_fold]
theorem fold_col (l : List UInt8) : ∀ r, fold (col r l) = col r (fold l) := by
  induction l with
  | nil => intro r; rfl
  | cons b t ih =>
    intro r
    simp only [col, fold, List.map_cons, bl_lo] at ih ⊢
    by_cases hb : bl b = true
    · cases r <;> simp [hb, ih, lo_32]
    · simp [hb, ih]
theorem normal_col (l : List UInt8) : normal (col false l) = normal l := by rw [normal_eq, normal_eq, fold_col, sqA_col]
theorem fold_squeeze (l : List UInt8) : fold (squeeze l) = normal l := by rw [squeeze_eq, fold_sqA, normal_eq]
theorem normal_squeeze (l : List UInt8) : normal (squeeze l) = normal l := by rw [normal_eq, fold_squeeze, normal_eq, sqA_sqA]
theorem fold_app (a b : List UInt8) : fold (a ++ b) = fold a ++ fold b := by simp [fold]
theorem normal_tab (a b : List UInt8) : normal (a ++ [9] ++ b) = join (normal a) (normal b) := by
  rw [normal_eq, normal_eq, normal_eq, List.append_assoc, fold_app, fold_app]
  exact sqA_app _ _ 9 (by decide)
theorem normal_two (a b : List UInt8) : normal (a ++ [32, 32] ++ b) = join (normal a) (normal b) := by
  rw [normal_eq, normal_eq, normal_eq, List.append_assoc, fold_app, fold_app]
  have h := sqA_app (fold a) (32 :: fold b) 32 (by decide)
  have e : sqA (32 :: fold b) = sqA (fold b) := by simp [sqA, bl_32]
  rw [e] at h
  exact h
theorem normal_word : normal [32, 65, 9, 98, 32] = [97, 32, 98] := by decide
theorem col_length (l : List UInt8) : ∀ r, (col r l).length ≤ l.length := by
  induction l with
  | nil => intro r; simp [col]
  | cons b t ih =>
    intro r
    have h1 := ih true
    have h2 := ih false
    simp only [col]
    split
    · split <;> simp <;> omega
    · simp; omega
end TextMath
end Go.Proofs.YtoomoicjoockjaaGreatDoor

namespace Go.Proofs.YtoomoicjoockjaaGreatDoor
open TextMath (fold lo)

theorem setTo (l : List UInt8) (k : Nat) (h : k < l.length) : ((l.take k).map lo ++ l.drop k).set k (lo l[k]) = (l.take (k + 1)).map lo ++ l.drop (k + 1) := by
  rw [List.take_succ_eq_append_getElem h, List.set_append, if_neg (by simp; omega)]
  have e : k - (List.map lo (l.take k)).length = 0 := by simp; omega
  rw [e, List.drop_eq_getElem_cons h]
  simp only [List.set_cons_zero, List.map_append, List.map_cons, List.map_nil, List.append_assoc, List.cons_append, List.nil_append]
theorem keepTo (l : List UInt8) (k : Nat) (h : k < l.length) (e : lo l[k] = l[k]) : (l.take (k + 1)).map lo ++ l.drop (k + 1) = (l.take k).map lo ++ l.drop k := by
  rw [List.take_succ_eq_append_getElem h, List.drop_eq_getElem_cons h]
  simp only [List.map_append, List.map_cons, List.map_nil, List.append_assoc, List.cons_append, List.nil_append, e]
theorem getTo (l : List UInt8) (k : Nat) (h : k < l.length) (hh : k < ((l.take k).map lo ++ l.drop k).length) : ((l.take k).map lo ++ l.drop k)[k] = l[k] := by
  have e : (List.map lo (l.take k)).length = k := by simp; omega
  rw [List.getElem_append_right (by omega)]
  simp only [e, Nat.sub_self, List.getElem_drop, Nat.add_zero]
theorem lenTo (l : List UInt8) (k : Nat) (h : k ≤ l.length) : ((l.take k).map lo ++ l.drop k).length = l.length := by simp; omega
theorem lo_big (c : UInt8) (h1 : (65 : Int) ≤ c.toNat) (h2 : (c.toNat : Int) ≤ 90) : ((lo c).toNat : Int) = c.toNat + 32 := by
  rw [TextMath.lo_toNat, if_pos (by omega)]; omega
theorem lo_small (c : UInt8) (h : ¬ ((65 : Int) ≤ c.toNat ∧ (c.toNat : Int) ≤ 90)) : lo c = c := by
  unfold lo; rw [if_neg (by omega)]

theorem fold_snoc (l : List UInt8) (k : Nat) (h : k < l.length) : fold (l.take (k + 1)) = fold (l.take k) ++ [lo l[k]] := by
  rw [List.take_succ_eq_append_getElem h]; simp only [fold, List.map_append, List.map_cons, List.map_nil]
theorem fold_len (l : List UInt8) : (fold l).length = l.length := by simp [fold]
end Go.Proofs.YtoomoicjoockjaaGreatDoor

namespace Go.Proofs.YtoomoicjoockjaaGreatDoor
open Go.RowKit
open TextMath (fold lo)

set_option maxHeartbeats 400000 in
theorem fold_any (s : ByteArray) (w : World) (hm : s.size ≤ maxLen) :
    Calls Tryz.prog 50 #[.string s] w fun e w' => e = .returned (.string (S (fold s.data.toList))) ∧ Below w.heap.size w w' := by
  unfold maxLen at hm
  have hL : Hid (s.data.toList.length = s.size) := size_l s
  obtain ⟨W1, cap, hconv, hb1, hz1, hr1⟩ := conv_bytes (P := Tryz.prog) w 9 51 5 s Tryz.underlying9 Tryz.underlying51 Tryz.underlying5
  go_enter Tryz.func50, Tryz.ntmps50
  go_wp2
  go_loopw [10] (fun i wr => ∃ k : Nat, k ≤ s.size ∧ i = .int .i64 k ∧ Below w.heap.size w wr ∧ BRow wr w.heap.size ((s.data.toList.take k).map lo ++ s.data.toList.drop k)) (fun i _ => s.size - (intOf i).toNat)
  case atStart => exact ⟨0, Nat.zero_le _, rfl, hb1, by simpa using hr1⟩
  case round =>
    clear hconv
    obtain ⟨k, hk, rfl, hb, hr⟩ := hrel
    by_cases hlt : k < s.size
    · have hkl : k < s.data.toList.length := by rw [hL.out]; exact hlt
      have hkt : k < ((s.data.toList.take k).map lo ++ s.data.toList.drop k).length := by rw [lenTo _ _ (by omega)]; exact hkl
      obtain ⟨hc, hf⟩ := hr k hkt
      rw [getTo _ _ hkl hkt] at hc
      have hset := hr.set k hkt (lo s.data.toList[k])
      rw [setTo _ _ hkl] at hset
      have hkeep := keepTo s.data.toList k hkl
      generalize s.data.toList[k] = c at *
      have hc256 : c.toNat < 256 := c.toNat_lt
      by_cases h1 : (65 : Int) ≤ c.toNat ∧ (c.toNat : Int) ≤ 90
      · rw [lo_big c h1.1 h1.2] at hset
        obtain ⟨h1, h2⟩ := h1
        have HS : Hid (BRow _ _ _) := hset
        clear hset hkeep hr hr1
        go_wp2
        go_roundw
        case rel => exact ⟨k + 1, by omega, by go_num, hb.setCell (Nat.le_refl _) _, HS.out⟩
        case measure => simp [intOf]; omega
      · have hke := hkeep (lo_small c h1)
        have HS : Hid (BRow wr w.heap.size (List.map lo (List.take (k + 1) s.data.toList) ++ List.drop (k + 1) s.data.toList)) := by rw [hke]; exact hr
        clear hset hkeep hr hr1 hke
        by_cases h2 : (65 : Int) ≤ c.toNat
        · have h3 : ¬ (c.toNat : Int) ≤ 90 := fun h => h1 ⟨h2, h⟩
          clear h1
          go_wp2
          go_roundw
          case rel => exact ⟨k + 1, by omega, by go_num, hb, HS.out⟩
          case measure => simp [intOf]; omega
        · clear h1
          go_wp2
          go_roundw
          case rel => exact ⟨k + 1, by omega, by go_num, hb, HS.out⟩
          case measure => simp [intOf]; omega
    · have hk2 : k = s.size := by omega
      subst hk2
      have hback := conv_back (P := Tryz.prog) wr 51 9 5 w.heap.size s.size cap (fold s.data.toList) Tryz.underlying51 Tryz.underlying5 Tryz.underlying9 (by simp [fold]) (by
        have e : List.map lo (List.take s.size s.data.toList) ++ List.drop s.size s.data.toList = fold s.data.toList := by
          rw [List.take_of_length_le (by rw [hL.out]; exact Nat.le_refl _), List.drop_eq_nil_of_le (by rw [hL.out]; exact Nat.le_refl _)]; simp [fold]
        rw [← e]; exact hr)
      clear hr hr1
      go_wp2
      go_ret
      exact ⟨rfl, hb⟩
end Go.Proofs.YtoomoicjoockjaaGreatDoor

namespace Go.Proofs.YtoomoicjoockjaaGreatDoor
open Go.RowKit
open TextMath (fold lo)

theorem con_one (f : ByteArray) (g : Nat) (w : World) (hg : w.cell? ⟨g, 0, none⟩ = some (.string f)) : ∀ W x, Below w.heap.size w W → Hid (Calls Tryz.prog 87 #[.slice (some ⟨g, 0, none⟩) 1 1, .string x] W fun e w' => e = .returned (.bool (Lib.containsS [f] x)) ∧ w' = W) := fun W x hb => by
  have h := Tryz.slices_Contains_string g 0 1 1 [f] x W (by simp) (by decide) (fun j hj => by
    have : j = 0 := by simp at hj; exact hj
    subst this
    rw [hb.cell (World.block_lt_of_cell? w _ hg)]
    exact hg)
  exact h
/-- A book of one asked text, its cells a letter. -/
theorem openBook_one (f : ByteArray) (g : Nat) (w : World) (hg : w.cell? ⟨g, 0, none⟩ = some (.string f)) :
    Calls Tryz.prog 65 #[.slice (some ⟨g, 0, none⟩) 1 1] w fun e w' => ∃ B cs, w.heap.size ≤ B ∧ e = .returned (.agg cs) ∧ Hid (bkC B (upF 62) = cs) ∧ cs.size = 187 ∧ (∀ v ∈ cs.toList, v.oneCell' = true) ∧ cs[186]? = some (.map (some B)) ∧ Hid (w'.ownsMap Tryz.prog 9 (plainElem (H := Nat) Tryz.prog 3) B 186 (mapD [f] (upF 62))) ∧ Below w.heap.size w w' := by
  refine (openBook_any _ 1 1 [f] w (con_one f g w hg)).mono ?_
  intro e w' h
  obtain ⟨B, h1, h2, h3, h4⟩ := h
  exact ⟨B, bkC B (upF 62), h1, h2, rfl, bkC_size _ _, bkC_one _ _, bkC_last _ _, h3, h4⟩
theorem six {W : World} {R : Nat} {t : TypeId} {a0 a1 a2 a3 a4 a5 : Value} (h : W.heap[R]? = some (.cells #[a0, a1, a2, a3, a4, a5] t (0, 0))) (v0 v1 v2 v3 v4 v5 : Value) :
    ∃ W', (((((W.setCell ⟨R, 0, none⟩ v0).setCell ⟨R, 1, none⟩ v1).setCell ⟨R, 2, none⟩ v2).setCell ⟨R, 3, none⟩ v3).setCell ⟨R, 4, none⟩ v4).setCell ⟨R, 5, none⟩ v5 = W' ∧ W'.heap[R]? = some (.cells #[v0, v1, v2, v3, v4, v5] t (0, 0)) ∧ (∀ y, y ≠ R → W'.heap[y]? = W.heap[y]?) ∧ ∀ B u, B ≤ R → Below B u W → Below B u W' := by
  refine ⟨_, rfl, Go.heap_setCell_same _ _ _ _ _ _ (Go.heap_setCell_same _ _ _ _ _ _ (Go.heap_setCell_same _ _ _ _ _ _ (Go.heap_setCell_same _ _ _ _ _ _ (Go.heap_setCell_same _ _ _ _ _ _ (Go.heap_setCell_same _ _ _ _ _ _ h))))), fun y hy => ?_, fun B u hB hu => ?_⟩
  · rw [Below.heap_setCell _ _ _ _ hy, Below.heap_setCell _ _ _ _ hy, Below.heap_setCell _ _ _ _ hy, Below.heap_setCell _ _ _ _ hy, Below.heap_setCell _ _ _ _ hy, Below.heap_setCell _ _ _ _ hy]
  · refine Below.setCell (Below.setCell (Below.setCell (Below.setCell (Below.setCell (Below.setCell hu ?_ _) ?_ _) ?_ _) ?_ _) ?_ _) ?_ _ <;> exact hB
theorem RowIs.of {W W' : World} {B : Nat} {i : Fin 62} {v : Value} (h : RowIs W B i v) (hb : ∀ y, B ≤ y → y < W.heap.size → W'.heap[y]? = W.heap[y]?) : RowIs W' B i v := by
  obtain ⟨al, e, h4⟩ := h
  refine ⟨al, e, ?_⟩
  rcases h4 with h4 | ⟨m6, g, c, q1, q3, q4⟩
  · exact Or.inl h4
  · refine Or.inr ⟨m6, g, c, q1, q3, ?_⟩
    rw [World.cell?_of_block (w := W) (a := ⟨g, 0, none⟩) (hb g q1 (World.block_lt_of_cell? W _ q4))]
    exact q4
/-- What Find answers of a folded text. -/
def FindIs (W : World) (B : Nat) (f : ByteArray) (e : Ending) : Prop :=
  (rowOf f = none ∧ e = .returned (.tuple #[.agg #[.string ⟨#[]⟩, .slice none 0 0, .string ⟨#[]⟩, .string ⟨#[]⟩, .int .i64 0, .int .i64 0], .bool false])) ∨
  (∃ i v, rowOf f = some i ∧ e = .returned (.tuple #[v, .bool true]) ∧ RowIs W B i v)

theorem st_book (W : World) (cs : Array Value) (hz : cs.size = 187) (h1 : ∀ v ∈ cs.toList, v.oneCell' = true) : (storeCells ⟨W.heap.size, 0, none⟩ cs.toList 0).run Tryz.prog (W.alloc (.cells Tryz.zeroCells107 107)) = .ok () (W.alloc (.cells cs 107)) := by
  refine run_storeCells_new W _ _ cs (by rw [hz]; kernel_rfl) (by rw [hz]; kernel_rfl) ?_
  rw [Array.all_eq_true']
  intro v hv
  exact h1 v (by simpa using hv)

end Go.Proofs.YtoomoicjoockjaaGreatDoor

namespace Go.Proofs.YtoomoicjoockjaaGreatDoor
open Go.RowKit

/-- The canonical type of a folded text. -/
def canN (f : ByteArray) : ByteArray := match rowOf f with
  | none => f
  | some i => (rowL i).1
set_option maxRecDepth 100000 in
set_option maxHeartbeats 400000 in
theorem canonical_any (f : ByteArray) (b B : Nat) (W : World) (hbk : Book W b B) (hM : W.ownsMap Tryz.prog 9 (plainElem (H := Nat) Tryz.prog 3) B 186 (mapD [f] (upF 62))) (hfz : f.size ≤ maxLen) :
    Calls Tryz.prog 66 #[.pointer (some ⟨b, 0, none⟩), .string f] W fun e w' => e = .returned (.string (canN f)) ∧ w' = W := by
  obtain ⟨D, hD⟩ : ∃ D, mapD [f] (upF 62) = D := ⟨_, rfl⟩
  have hhas := map_has f
  have hat := fun i h => map_at f i h (.lit (.int .i64 0))
  rw [hD] at hM hhas hat
  have hM4 : Hid (W.ownsMap Tryz.prog 9 (plainElem (H := Nat) Tryz.prog 3) B 186 D) := hM
  have hkey : Hid (keyOf Tryz.prog 9 (.string f) = some (.string f.data.toList)) := key_str f hfz
  have q4 := hbk.map
  have hbk' : Hid (Book W b B) := hbk
  clear hD hM hbk
  cases hrow : rowOf f with
  | none =>
    rw [hrow] at hhas
    have hhas' : Maps.has D (.string f.data.toList) = false := hhas
    have hfin : Hid (canN f = f) := by unfold Hid canN; rw [hrow]
    clear hhas hat
    go_enter Tryz.func66, Tryz.ntmps66
    go_wp2_with (at_lookup; refine wpList_lookup_own_ok_int _ rfl _ _ 105 rfl 9 3 .i64 (Maps.string_keyed Tryz.underlying9) Tryz.underlying105 Tryz.underlying3 (Tryz.zeroValue3 _) B 186 D rfl hM4.out _ _ rfl hkey.out ?_; intro c hatc hwc)
    go_ret
    exact ⟨by rw [hfin.out]; rfl, rfl⟩
  | some i =>
    rw [hrow] at hhas
    have hhas' : Maps.has D (.string f.data.toList) = true := hhas
    have hati := hat i hrow
    have hati' : Hid (D.atKey (.string f.data.toList) (.lit (.int .i64 0)) = .lit (.int .i64 (i.1 : Int))) := hati
    have hfin : Hid (canN f = (rowL i).1) := by unfold Hid canN; rw [hrow]
    obtain ⟨c0, _, _⟩ := hbk'.out.cells i
    have i0 : (0 : Int) ≤ (i.1 : Int) := Int.natCast_nonneg _
    have i1 : (i.1 : Int) < 62 := by have := i.2; omega
    clear hhas hat hati
    go_enter Tryz.func66, Tryz.ntmps66
    go_wp2_with (at_lookup; refine wpList_lookup_own_ok_int _ rfl _ _ 105 rfl 9 3 .i64 (Maps.string_keyed Tryz.underlying9) Tryz.underlying105 Tryz.underlying3 (Tryz.zeroValue3 _) B 186 D rfl hM4.out _ _ rfl hkey.out ?_; intro c hatc hwc; obtain rfl : c = (i.1 : Int) := (by rw [hati'.out] at hatc; injection hatc with hatc; injection hatc with _ hatc; exact hatc.symm))
    go_ret
    exact ⟨by rw [hfin.out]; rfl, rfl⟩
end Go.Proofs.YtoomoicjoockjaaGreatDoor
