import Derived.WalkKit
import Derived.WalkSpells
import Derived.WalkLawsBesides
import Derived.Lib.Strings
import Derived.Lib.IndexBytes
import Derived.Laws.IdiomStrings
import Derived.Laws.BytesArg
import Derived.Test.YtkknenmpdimdbaaGreatDoorRows
namespace Go.Proofs.YtkknenmpdimdbaaGreatDoor
open Go.RowKit

/-- A string by its bytes. -/
def S (l : List UInt8) : ByteArray := ⟨l.toArray⟩
theorem S_l (l : List UInt8) : (S l).data.toList = l := by simp [S]
theorem S_of (s : ByteArray) : S s.data.toList = s := by simp [S]
theorem S_size (l : List UInt8) : (S l).size = l.length := by show l.toArray.size = _; simp
theorem S_inj (l k : List UInt8) (h : S l = S k) : l = k := by rw [← S_l l, h, S_l]
theorem S_eq (l : List UInt8) (s : ByteArray) (h : s.data.toList = l) : s = S l := by rw [← h, S_of]
theorem size_l (s : ByteArray) : s.data.toList.length = s.size := by show s.data.toList.length = s.data.size; simp
theorem app_l (a b : ByteArray) : (a ++ b).data.toList = a.data.toList ++ b.data.toList := by simp [ByteArray.data_append]
theorem take_l (a : ByteArray) (p : Nat) : (a.extract 0 p).data.toList = a.data.toList.take p := by rw [Lib.extract_data]; simp
theorem drop_l (s : ByteArray) (k : Nat) : (s.extract k s.size).data.toList = s.data.toList.drop k := Lib.extract_to_end s k
theorem getD_s (s : ByteArray) (i : Nat) (h : i < s.size) : s.data.toList.getD i 0 = s[i] := by
  have h' : i < s.data.size := h
  simp [List.getD, Array.getElem?_eq_getElem h']; rfl
theorem take_snoc (s : ByteArray) (k : Nat) (h : k < s.size) : s.data.toList.take (k + 1) = s.data.toList.take k ++ [s[k]] := by
  rw [List.take_succ_eq_append_getElem (by simpa using h)]; rfl
theorem ret_int {k : IntKind} {a b : Int} (h : a = b) : Ending.returned (.int k a) = .returned (.int k b) := by rw [h]
theorem ret_str {a b : ByteArray} (h : a = b) : Ending.returned (.string a) = .returned (.string b) := by rw [h]
theorem ret_bool {a b : Bool} (h : a = b) : Ending.returned (.bool a) = .returned (.bool b) := by rw [h]

/-- A row of bytes that may be written. -/
def BRow (W : World) (b : Nat) (l : List UInt8) : Prop := ∀ j (hj : j < l.length), W.cell? ⟨b, j, none⟩ = some (.int .u8 (l[j].toNat : Int)) ∧ W.frozen? ⟨b, j, none⟩ = false

theorem BRow.set {W : World} {b : Nat} {l : List UInt8} (h : BRow W b l) (k : Nat) (hk : k < l.length) (c : UInt8) : BRow (W.setCell ⟨b, k, none⟩ (.int .u8 (c.toNat : Int))) b (l.set k c) := by
  intro j hj
  have hj' : j < l.length := by simpa using hj
  rw [World.frozen?_setCell]
  refine ⟨?_, (h j hj').2⟩
  by_cases e : k = j
  · subst e
    rw [World.cell?_setCell_same W _ _ (h k hk).1]; simp
  · rw [World.cell?_setCell_other W _ _ _ (by intro hh; injection hh with _ h2 _; exact e h2), (h j hj').1]
    simp [e]

theorem BRow.alike {W W' : World} {b : Nat} {l : List UInt8} (h : BRow W b l) (e : W'.heap[b]? = W.heap[b]?) : BRow W' b l := by
  intro j hj
  rw [World.cell?_of_block (w := W) (w' := W') (a := ⟨b, j, none⟩) e, World.frozen?_of_block (w := W) (w' := W') (a := ⟨b, j, none⟩) e]
  exact h j hj

theorem conv_bytes {P : Program} (w : World) (src dst e : TypeId) (s : ByteArray) (hs : P.underlying src = some .string) (hd : P.underlying dst = some (.slice e)) (he : P.underlying e = some (.int .u8)) :
    ∃ W1 cap, (convert src dst (.string s)).run P w = .ok (.slice (some ⟨w.heap.size, 0, none⟩) s.size cap) W1 ∧ Below w.heap.size w W1 ∧ W1.heap.size = w.heap.size + 1 ∧ BRow W1 w.heap.size s.data.toList := by
  refine ⟨_, _, run_bytes_of_string w src dst e s hs hd he, ?_, ?_, ?_⟩
  · exact (Below.refl _ _).drew.alloc (by simp) _
  · simp
  · intro j hj
    have hj' : j < s.size := by rw [size_l] at hj; exact hj
    have hd' : (w.drew).heap.size = w.heap.size := by simp
    rw [← hd']
    rw [World.cell?_alloc_mark, World.frozen?_alloc_mark]
    refine ⟨?_, ?_⟩
    · simp [bytesRow, Array.getElem?_append, hj']
    · have hle : j < (bytesRow s (grownCap w s.size 0 e)).size := by simp [bytesRow]; have : s.size = s.data.size := rfl; omega
      simp; omega

theorem add_j (b j : Nat) : (⟨b, 0, none⟩ : Addr).add j = ⟨b, j, none⟩ := by
  unfold Addr.add
  by_cases h : j = 0
  · subst h; rfl
  · simp [h]

theorem conv_back {P : Program} (w : World) (src dst e : TypeId) (b n cap : Nat) (l : List UInt8) (hs : P.underlying src = some (.slice e)) (he : P.underlying e = some (.int .u8)) (hd : P.underlying dst = some .string)
    (hn : n = l.length) (hc : BRow w b l) : (convert src dst (.slice (some ⟨b, 0, none⟩) n cap)).run P w = .ok (.string (S l)) w := by
  subst hn
  exact run_convert_bytes_back w src dst e ⟨b, 0, none⟩ cap l hs he hd (fun j hj => by have := (hc j hj).1; rw [add_j]; exact this)

/-- Bytes as cells. -/
def bv (l : List UInt8) : List Value := l.map fun b => .int .u8 (b.toNat : Int)
theorem bv_app (l k : List UInt8) : bv (l ++ k) = bv l ++ bv k := by simp [bv]
theorem bv_len (l : List UInt8) : (bv l).length = l.length := by simp [bv]
theorem bv_one (l : List UInt8) : ∀ u ∈ bv l, u.oneCell' = true := by
  intro u hu
  simp only [bv, List.mem_map] at hu
  obtain ⟨b, _, rfl⟩ := hu
  rfl

theorem own_back {P : Program} (w : World) (base : Nat) (src dst e : TypeId) (g n cap : Nat) (l : List UInt8) (hs : P.underlying src = some (.slice e)) (he : P.underlying e = some (.int .u8)) (hd : P.underlying dst = some .string)
    (h : w.ownsRow base e 1 (.slice (some ⟨g, 0, none⟩) n cap) n (bv l)) : (convert src dst (.slice (some ⟨g, 0, none⟩) n cap)).run P w = .ok (.string (S l)) w := by
  have hn : n = l.length := by have := h.1; rw [bv_len] at this; omega
  subst hn
  refine run_convert_bytes_back w src dst e ⟨g, 0, none⟩ cap l hs he hd (fun j hj => ?_)
  have := h.cellAt j (by omega)
  rw [add_j, this]
  simp [bv, hj]

theorem own_back_any {P : Program} (w : World) (base : Nat) (src dst e : TypeId) (v : Value) (n : Nat) (l : List UInt8) (hs : P.underlying src = some (.slice e)) (he : P.underlying e = some (.int .u8)) (hd : P.underlying dst = some .string)
    (h : w.ownsRow base e 1 v n (bv l)) : (convert src dst v).run P w = .ok (.string (S l)) w := by
  rcases h.2 with ⟨rfl, rfl⟩ | ⟨g, cap, cur, rfl, _⟩
  · have hl : l = [] := by have := h.1; rw [bv_len] at this; exact List.eq_nil_of_length_eq_zero (by omega)
    subst hl
    rw [run_convert_bytes_string w src dst e none 0 0 hs he hd]
    rfl
  · exact own_back w base src dst e g n cap l hs he hd h
end Go.Proofs.YtkknenmpdimdbaaGreatDoor

namespace Go.Proofs.YtkknenmpdimdbaaGreatDoor
namespace TextMath

def lo (b : UInt8) : UInt8 := if 65 ≤ b.toNat ∧ b.toNat ≤ 90 then UInt8.ofNat (b.toNat + 32) else b
def bl (b : UInt8) : Bool := decide (b.toNat = 32) || (decide (9 ≤ b.toNat) && decide (b.toNat ≤ 13))

theorem lo_toNat (b : UInt8) : (lo b).toNat = if 65 ≤ b.toNat ∧ b.toNat ≤ 90 then b.toNat + 32 else b.toNat := by
  unfold lo; split
  · rw [UInt8.toNat_ofNat']; omega
  · rfl
theorem lo_lo (b : UInt8) : lo (lo b) = lo b := by
  apply UInt8.toNat_inj.1
  rw [lo_toNat, lo_toNat]; repeat' split
  all_goals omega
theorem bl_lo (b : UInt8) : bl (lo b) = bl b := by
  have := lo_toNat b
  unfold bl
  rw [Bool.eq_iff_iff]; simp only [Bool.or_eq_true, Bool.and_eq_true, decide_eq_true_eq]
  split at this <;> omega
theorem lo_32 : lo 32 = 32 := by decide
theorem bl_32 : bl 32 = true := by decide

def fold (l : List UInt8) : List UInt8 := l.map lo
/-- Collapse: the text that is left, and whether a run has begun. -/
def col : Bool → List UInt8 → List UInt8
  | _, [] => []
  | r, b :: t => if bl b then (if r then col true t else 32 :: col true t) else b :: col false t
def trimP (l : List UInt8) : List UInt8 := if l.head? = some 32 then l.drop 1 else l
def trimS (l : List UInt8) : List UInt8 := if l.getLast? = some 32 then l.dropLast else l
def squeeze (l : List UInt8) : List UInt8 := trimS (trimP (col false l))
def normal (l : List UInt8) : List UInt8 := squeeze (fold l)

def sqB : Bool → List UInt8 → List UInt8
  | _, [] => []
  | p, b :: t => if bl b then sqB true t else (if p then [32, b] else [b]) ++ sqB false t
def sqA : List UInt8 → List UInt8
  | [] => []
  | b :: t => if bl b then sqA t else b :: sqB false t

theorem ne32 {b : UInt8} (h : bl b = false) : b ≠ 32 := by rintro rfl; rw [bl_32] at h; cases h

theorem trimS_snoc (p : List UInt8) (x : UInt8) (h : x ≠ 32) : trimS (p ++ [x]) = p ++ [x] := by
  unfold trimS; rw [if_neg]; simp [h]
theorem trimS_sp (p : List UInt8) : trimS (p ++ [32]) = p := by
  unfold trimS; rw [if_pos (by simp)]; simp

theorem trimS_col (l : List UInt8) : (∀ p x, x ≠ 32 → trimS (p ++ [x] ++ col false l) = p ++ [x] ++ sqB false l) ∧ (∀ p x, x ≠ 32 → trimS (p ++ [x] ++ [32] ++ col true l) = p ++ [x] ++ sqB true l) := by
  induction l with
  | nil => exact ⟨fun p x h => by simp [col, sqB, trimS_snoc p x h], fun p x h => by simp only [col, sqB, List.append_nil]; exact trimS_sp _⟩
  | cons b t ih =>
    by_cases hb : bl b = true
    · refine ⟨fun p x h => ?_, fun p x h => ?_⟩
      · simp only [col, sqB, hb, if_true]
        have := ih.2 p x h
        simpa using this
      · simp only [col, sqB, hb, if_true]
        exact ih.2 p x h
    · have hb' : bl b = false := by simpa using hb
      refine ⟨fun p x h => ?_, fun p x h => ?_⟩
      · simp only [col, sqB, hb', Bool.false_eq_true, if_false]
        have := ih.1 (p ++ [x]) b (ne32 hb')
        simpa using this
      · simp only [col, sqB, hb', Bool.false_eq_true, if_false, if_true]
        have := ih.1 (p ++ [x] ++ [32]) b (ne32 hb')
        simpa using this

theorem trimS_colT (l : List UInt8) : trimS (col true l) = sqA l := by
  induction l with
  | nil => rfl
  | cons b t ih =>
    by_cases hb : bl b = true
    · simp only [col, sqA, hb, if_true]; exact ih
    · have hb' : bl b = false := by simpa using hb
      simp only [col, sqA, hb', Bool.false_eq_true, if_false]
      have := (trimS_col t).1 [] b (ne32 hb')
      simpa using this

theorem squeeze_eq (l : List UInt8) : squeeze l = sqA l := by
  unfold squeeze
  cases l with
  | nil => rfl
  | cons b t =>
    by_cases hb : bl b = true
    · simp only [col, sqA, hb, if_true, Bool.false_eq_true, if_false]
      have : trimP (32 :: col true t) = col true t := by simp [trimP]
      rw [this, trimS_colT]
    · have hb' : bl b = false := by simpa using hb
      simp only [col, sqA, hb', Bool.false_eq_true, if_false]
      have : trimP (b :: col false t) = b :: col false t := by
        unfold trimP; rw [if_neg]; simp [ne32 hb']
      rw [this]
      have := (trimS_col t).1 [] b (ne32 hb')
      simpa using this

theorem fold_fold (l : List UInt8) : fold (fold l) = fold l := by
  unfold fold; rw [List.map_map]; apply List.map_congr_left; intro b _; exact lo_lo b
theorem fold_sqB (l : List UInt8) : ∀ p, fold (sqB p l) = sqB p (fold l) := by
  induction l with
  | nil => intro p; rfl
  | cons b t ih =>
    intro p
    simp only [sqB, fold, List.map_cons, bl_lo] at ih ⊢
    by_cases hb : bl b = true
    · simp only [hb, if_true]; exact ih true
    · cases p <;> simp [hb, ih, lo_32]
theorem fold_sqA (l : List UInt8) : fold (sqA l) = sqA (fold l) := by
  induction l with
  | nil => rfl
  | cons b t ih =>
    have := fold_sqB t false
    simp only [sqA, fold, List.map_cons, bl_lo] at ih this ⊢
    by_cases hb : bl b = true
    · simp only [hb, if_true]; exact ih
    · simp [hb, this]

theorem sqB_sqB (l : List UInt8) : ∀ p, sqB false (sqB p l) = sqB p l := by
  induction l with
  | nil => intro p; rfl
  | cons b t ih =>
    intro p
    by_cases hb : bl b = true
    · simp only [sqB, hb, if_true]; exact ih true
    · have hb' : bl b = false := by simpa using hb
      cases p
      · simp [sqB, hb', ih]
      · simp [sqB, hb', ih, bl_32]
theorem sqA_sqA (l : List UInt8) : sqA (sqA l) = sqA l := by
  induction l with
  | nil => rfl
  | cons b t ih =>
    by_cases hb : bl b = true
    · simp only [sqA, hb, if_true]; exact ih
    · have hb' : bl b = false := by simpa using hb
      simp [sqA, hb', sqB_sqB]
theorem col_sqB (l : List UInt8) : ∀ p, col false (sqB p l) = sqB p l := by
  induction l with
  | nil => intro p; rfl
  | cons b t ih =>
    intro p
    by_cases hb : bl b = true
    · simp only [sqB, hb, if_true]; exact ih true
    · have hb' : bl b = false := by simpa using hb
      cases p
      · simp [sqB, col, hb', ih]
      · simp [sqB, col, hb', ih, bl_32]
theorem col_sqA (l : List UInt8) : col false (sqA l) = sqA l := by
  induction l with
  | nil => rfl
  | cons b t ih =>
    by_cases hb : bl b = true
    · simp only [sqA, hb, if_true]; exact ih
    · have hb' : bl b = false := by simpa using hb
      simp [sqA, col, hb', col_sqB]
theorem sqB_col (l : List UInt8) : (∀ p, sqB p (col false l) = sqB p l) ∧ sqB true (col true l) = sqB true l := by
  induction l with
  | nil => exact ⟨fun _ => rfl, rfl⟩
  | cons b t ih =>
    by_cases hb : bl b = true
    · refine ⟨fun p => ?_, ?_⟩
      · simp [col, sqB, hb, bl_32, ih.2]
      · simp [col, sqB, hb, ih.2]
    · have hb' : bl b = false := by simpa using hb
      refine ⟨fun p => ?_, ?_⟩
      · simp [col, sqB, hb', ih.1]
      · simp [col, sqB, hb', ih.1]
theorem sqA_col (l : List UInt8) : ∀ r, sqA (col r l) = sqA l := by
  induction l with
  | nil => intro r; rfl
  | cons b t ih =>
    intro r
    by_cases hb : bl b = true
    · cases r <;> simp [col, sqA, hb, bl_32, ih]
    · have hb' : bl b = false := by simpa using hb
      simp [col, sqA, hb', (sqB_col t).1]
theorem sqB_true (l : List UInt8) : sqB true l = if sqA l = [] then [] else 32 :: sqA l := by
  induction l with
  | nil => rfl
  | cons b t ih =>
    by_cases hb : bl b = true
    · simp only [sqB, sqA, hb, if_true]; exact ih
    · have hb' : bl b = false := by simpa using hb
      simp [sqB, sqA, hb']
theorem sqB_app (a b : List UInt8) (c : UInt8) (hc : bl c = true) : ∀ p, sqB p (a ++ c :: b) = sqB p a ++ sqB true b := by
  induction a with
  | nil => intro p; simp [sqB, hc]
  | cons x t ih =>
    intro p
    by_cases hb : bl x = true
    · simp [sqB, hb, ih]
    · have hb' : bl x = false := by simpa using hb
      simp [sqB, hb', ih]
def join (n m : List UInt8) : List UInt8 := if n = [] ∨ m = [] then n ++ m else n ++ [32] ++ m
theorem sqA_app (a b : List UInt8) (c : UInt8) (hc : bl c = true) : sqA (a ++ c :: b) = join (sqA a) (sqA b) := by
  induction a with
  | nil => simp [sqA, hc, join]
  | cons x t ih =>
    by_cases hb : bl x = true
    · simp only [List.cons_append, sqA, hb, if_true]; exact ih
    · have hb' : bl x = false := by simpa using hb
      simp only [List.cons_append, sqA, hb', Bool.false_eq_true, if_false, join, sqB_app t b c hc, sqB_true b]
      by_cases h : sqA b = [] <;> simp [h]

theorem normal_eq (l : List UInt8) : normal l = sqA (fold l) := squeeze_eq _
theorem fold_normal (l : List UInt8) : fold (normal l) = normal l := by rw [normal_eq, fold_sqA, fold_fold]
theorem normal_normal (l : List UInt8) : normal (normal l) = normal l := by
  rw [normal_eq (normal l), fold_normal, normal_eq, sqA_sqA]
theorem col_normal (l : List UInt8) : col false (normal l) = normal l := by rw [normal_eq, col_sqA]
theorem squeeze_normal (l : List UInt8) : squeeze (normal l) = normal l := by rw [squeeze_eq, normal_eq, sqA_sqA]
theorem normal_fold (l : List UInt8) : normal (fold l) = normal l := by rw [normal_eq, normal_eq, fold_fold]
theorem fold_col (l : List UInt8) : ∀ r, fold (col r l) = col r (fold l) := by
  induction l with
  | nil => intro r; rfl
  | cons b t ih =>
    intro r
    simp only [col, fold, List.map_cons, bl_lo] at ih ⊢
    by_cases hb : bl b = true
    · cases r <;> simp [hb, ih, lo_32]
    · simp [hb, ih]
theorem normal_col (l : List UInt8) : normal (col false l) = normal l := by rw [normal_eq, normal_eq, fold_col, sqA_col]
theorem fold_squeeze (l : List UInt8) : fold (squeeze l) = normal l := by rw [squeeze_eq, fold_sqA, normal_eq]
theorem normal_squeeze (l : List UInt8) : normal (squeeze l) = normal l := by rw [normal_eq, fold_squeeze, normal_eq, sqA_sqA]
theorem fold_app (a b : List UInt8) : fold (a ++ b) = fold a ++ fold b := by simp [fold]
theorem normal_tab (a b : List UInt8) : normal (a ++ [9] ++ b) = join (normal a) (normal b) := by
  rw [normal_eq, normal_eq, normal_eq, List.append_assoc, fold_app, fold_app]
  exact sqA_app _ _ 9 (by decide)
theorem normal_two (a b : List UInt8) : normal (a ++ [32, 32] ++ b) = join (normal a) (normal b) := by
  rw [normal_eq, normal_eq, normal_eq, List.append_assoc, fold_app, fold_app]
  have h := sqA_app (fold a) (32 :: fold b) 32 (by decide)
  have e : sqA (32 :: fold b) = sqA (fold b) := by simp [sqA, bl_32]
  rw [e] at h
  exact h
theorem normal_word : normal [32, 65, 9, 98, 32] = [97, 32, 98] := by decide
theorem col_length (l : List UInt8) : ∀ r, (col r l).length ≤ l.length := by
  induction l with
  | nil => intro r; simp [col]
  | cons b t ih =>
    intro r
    have h1 := ih true
    have h2 := ih false
    simp only [col]
    split
    · split <;> simp <;> omega
    · simp; omega
end TextMath
end Go.Proofs.YtkknenmpdimdbaaGreatDoor

namespace Go.Proofs.YtkknenmpdimdbaaGreatDoor
open TextMath (fold lo)

theorem setTo (l : List UInt8) (k : Nat) (h : k < l.length) : ((l.take k).map lo ++ l.drop k).set k (lo l[k]) = (l.take (k + 1)).map lo ++ l.drop (k + 1) := by
  rw [List.take_succ_eq_append_getElem h, List.set_append, if_neg (by simp; omega)]
  have e : k - (List.map lo (l.take k)).length = 0 := by simp; omega
  rw [e, List.drop_eq_getElem_cons h]
  simp only [List.set_cons_zero, List.map_append, List.map_cons, List.map_nil, List.append_assoc, List.cons_append, List.nil_append]
theorem keepTo (l : List UInt8) (k : Nat) (h : k < l.length) (e : lo l[k] = l[k]) : (l.take (k + 1)).map lo ++ l.drop (k + 1) = (l.take k).map lo ++ l.drop k := by
  rw [List.take_succ_eq_append_getElem h, List.drop_eq_getElem_cons h]
  simp only [List.map_append, List.map_cons, List.map_nil, List.append_assoc, List.cons_append, List.nil_append, e]
theorem getTo (l : List UInt8) (k : Nat) (h : k < l.length) (hh : k < ((l.take k).map lo ++ l.drop k).length) : ((l.take k).map lo ++ l.drop k)[k] = l[k] := by
  have e : (List.map lo (l.take k)).length = k := by simp; omega
  rw [List.getElem_append_right (by omega)]
  simp only [e, Nat.sub_self, List.getElem_drop, Nat.add_zero]
theorem lenTo (l : List UInt8) (k : Nat) (h : k ≤ l.length) : ((l.take k).map lo ++ l.drop k).length = l.length := by simp; omega
theorem lo_big (c : UInt8) (h1 : (65 : Int) ≤ c.toNat) (h2 : (c.toNat : Int) ≤ 90) : ((lo c).toNat : Int) = c.toNat + 32 := by
  rw [TextMath.lo_toNat, if_pos (by omega)]; omega
theorem lo_small (c : UInt8) (h : ¬ ((65 : Int) ≤ c.toNat ∧ (c.toNat : Int) ≤ 90)) : lo c = c := by
  unfold lo; rw [if_neg (by omega)]

theorem fold_snoc (l : List UInt8) (k : Nat) (h : k < l.length) : fold (l.take (k + 1)) = fold (l.take k) ++ [lo l[k]] := by
  rw [List.take_succ_eq_append_getElem h]; simp only [fold, List.map_append, List.map_cons, List.map_nil]
theorem fold_len (l : List UInt8) : (fold l).length = l.length := by simp [fold]
end Go.Proofs.YtkknenmpdimdbaaGreatDoor

namespace Go.Proofs.YtkknenmpdimdbaaGreatDoor
open Go.RowKit
open TextMath (fold lo)

set_option maxHeartbeats 400000 in
theorem fold_any (s : ByteArray) (w : World) (hm : s.size ≤ maxLen) :
    Calls Tryz.prog 81 #[.string s] w fun e w' => e = .returned (.string (S (fold s.data.toList))) ∧ Below w.heap.size w w' := by
  unfold maxLen at hm
  have hL : Hid (s.data.toList.length = s.size) := size_l s
  obtain ⟨W1, cap, hconv, hb1, hz1, hr1⟩ := conv_bytes (P := Tryz.prog) w 9 87 5 s Tryz.underlying9 Tryz.underlying87 Tryz.underlying5
  go_enter Tryz.func81, Tryz.ntmps81
  go_wp2
  go_loopw [10] (fun i wr => ∃ k : Nat, k ≤ s.size ∧ i = .int .i64 k ∧ Below w.heap.size w wr ∧ BRow wr w.heap.size ((s.data.toList.take k).map lo ++ s.data.toList.drop k)) (fun i _ => s.size - (intOf i).toNat)
  case atStart => exact ⟨0, Nat.zero_le _, rfl, hb1, by simpa using hr1⟩
  case round =>
    clear hconv
    obtain ⟨k, hk, rfl, hb, hr⟩ := hrel
    by_cases hlt : k < s.size
    · have hkl : k < s.data.toList.length := by rw [hL.out]; exact hlt
      have hkt : k < ((s.data.toList.take k).map lo ++ s.data.toList.drop k).length := by rw [lenTo _ _ (by omega)]; exact hkl
      obtain ⟨hc, hf⟩ := hr k hkt
      rw [getTo _ _ hkl hkt] at hc
      have hset := hr.set k hkt (lo s.data.toList[k])
      rw [setTo _ _ hkl] at hset
      have hkeep := keepTo s.data.toList k hkl
      generalize s.data.toList[k] = c at *
      have hc256 : c.toNat < 256 := c.toNat_lt
      by_cases h1 : (65 : Int) ≤ c.toNat ∧ (c.toNat : Int) ≤ 90
      · rw [lo_big c h1.1 h1.2] at hset
        obtain ⟨h1, h2⟩ := h1
        have HS : Hid (BRow _ _ _) := hset
        clear hset hkeep hr hr1
        go_wp2
        go_roundw
        case rel => exact ⟨k + 1, by omega, by go_num, hb.setCell (Nat.le_refl _) _, HS.out⟩
        case measure => simp [intOf]; omega
      · have hke := hkeep (lo_small c h1)
        have HS : Hid (BRow wr w.heap.size (List.map lo (List.take (k + 1) s.data.toList) ++ List.drop (k + 1) s.data.toList)) := by rw [hke]; exact hr
        clear hset hkeep hr hr1 hke
        by_cases h2 : (65 : Int) ≤ c.toNat
        · have h3 : ¬ (c.toNat : Int) ≤ 90 := fun h => h1 ⟨h2, h⟩
          clear h1
          go_wp2
          go_roundw
          case rel => exact ⟨k + 1, by omega, by go_num, hb, HS.out⟩
          case measure => simp [intOf]; omega
        · clear h1
          go_wp2
          go_roundw
          case rel => exact ⟨k + 1, by omega, by go_num, hb, HS.out⟩
          case measure => simp [intOf]; omega
    · have hk2 : k = s.size := by omega
      subst hk2
      have hback := conv_back (P := Tryz.prog) wr 87 9 5 w.heap.size s.size cap (fold s.data.toList) Tryz.underlying87 Tryz.underlying5 Tryz.underlying9 (by simp [fold]) (by
        have e : List.map lo (List.take s.size s.data.toList) ++ List.drop s.size s.data.toList = fold s.data.toList := by
          rw [List.take_of_length_le (by rw [hL.out]; exact Nat.le_refl _), List.drop_eq_nil_of_le (by rw [hL.out]; exact Nat.le_refl _)]; simp [fold]
        rw [← e]; exact hr)
      clear hr hr1
      go_wp2
      go_ret
      exact ⟨rfl, hb⟩
end Go.Proofs.YtkknenmpdimdbaaGreatDoor
