import Derived.WalkKit
import Derived.WalkSpells
import Derived.WalkLawsBesides
import Derived.Lib.Strings
import Derived.Lib.IndexBytes
import Derived.Laws.IdiomStrings
import Derived.Laws.BytesArg
namespace Go.Proofs.YtkecaeceeldcaaaGreatDoor
open Go.RowKit

/-- A string by its bytes. -/
def S (l : List UInt8) : ByteArray := ⟨l.toArray⟩
theorem S_l (l : List UInt8) : (S l).data.toList = l := by simp [S]
theorem S_of (s : ByteArray) : S s.data.toList = s := by simp [S]
theorem S_size (l : List UInt8) : (S l).size = l.length := by show l.toArray.size = _; simp
theorem S_inj (l k : List UInt8) (h : S l = S k) : l = k := by rw [← S_l l, h, S_l]
theorem S_eq (l : List UInt8) (s : ByteArray) (h : s.data.toList = l) : s = S l := by rw [← h, S_of]
theorem size_l (s : ByteArray) : s.data.toList.length = s.size := by show s.data.toList.length = s.data.size; simp
theorem app_l (a b : ByteArray) : (a ++ b).data.toList = a.data.toList ++ b.data.toList := by simp [ByteArray.data_append]
theorem take_l (a : ByteArray) (p : Nat) : (a.extract 0 p).data.toList = a.data.toList.take p := by rw [Lib.extract_data]; simp
theorem drop_l (s : ByteArray) (k : Nat) : (s.extract k s.size).data.toList = s.data.toList.drop k := Lib.extract_to_end s k
theorem getD_s (s : ByteArray) (i : Nat) (h : i < s.size) : s.data.toList.getD i 0 = s[i] := by
  have h' : i < s.data.size := h
  simp [List.getD, Array.getElem?_eq_getElem h']; rfl
theorem take_snoc (s : ByteArray) (k : Nat) (h : k < s.size) : s.data.toList.take (k + 1) = s.data.toList.take k ++ [s[k]] := by
  rw [List.take_succ_eq_append_getElem (by simpa using h)]; rfl
theorem ret_int {k : IntKind} {a b : Int} (h : a = b) : Ending.returned (.int k a) = .returned (.int k b) := by rw [h]
theorem ret_str {a b : ByteArray} (h : a = b) : Ending.returned (.string a) = .returned (.string b) := by rw [h]
theorem ret_bool {a b : Bool} (h : a = b) : Ending.returned (.bool a) = .returned (.bool b) := by rw [h]

/-- A row of bytes that may be written. -/
def BRow (W : World) (b : Nat) (l : List UInt8) : Prop := ∀ j (hj : j < l.length), W.cell? ⟨b, j, none⟩ = some (.int .u8 (l[j].toNat : Int)) ∧ W.frozen? ⟨b, j, none⟩ = false

theorem BRow.set {W : World} {b : Nat} {l : List UInt8} (h : BRow W b l) (k : Nat) (hk : k < l.length) (c : UInt8) : BRow (W.setCell ⟨b, k, none⟩ (.int .u8 (c.toNat : Int))) b (l.set k c) := by
  intro j hj
  have hj' : j < l.length := by simpa using hj
  rw [World.frozen?_setCell]
  refine ⟨?_, (h j hj').2⟩
  by_cases e : k = j
  · subst e
    rw [World.cell?_setCell_same W _ _ (h k hk).1]; simp
  · rw [World.cell?_setCell_other W _ _ _ (by intro hh; injection hh with _ h2 _; exact e h2), (h j hj').1]
    simp [e]

theorem BRow.alike {W W' : World} {b : Nat} {l : List UInt8} (h : BRow W b l) (e : W'.heap[b]? = W.heap[b]?) : BRow W' b l := by
  intro j hj
  rw [World.cell?_of_block (w := W) (w' := W') (a := ⟨b, j, none⟩) e, World.frozen?_of_block (w := W) (w' := W') (a := ⟨b, j, none⟩) e]
  exact h j hj

theorem conv_bytes {P : Program} (w : World) (src dst e : TypeId) (s : ByteArray) (hs : P.underlying src = some .string) (hd : P.underlying dst = some (.slice e)) (he : P.underlying e = some (.int .u8)) :
    ∃ W1 cap, (convert src dst (.string s)).run P w = .ok (.slice (some ⟨w.heap.size, 0, none⟩) s.size cap) W1 ∧ Below w.heap.size w W1 ∧ W1.heap.size = w.heap.size + 1 ∧ BRow W1 w.heap.size s.data.toList := by
  refine ⟨_, _, run_bytes_of_string w src dst e s hs hd he, ?_, ?_, ?_⟩
  · exact (Below.refl _ _).drew.alloc (by simp) _
  · simp
  · intro j hj
    have hj' : j < s.size := by rw [size_l] at hj; exact hj
    have hd' : (w.drew).heap.size = w.heap.size := by simp
    rw [← hd']
    rw [World.cell?_alloc_mark, World.frozen?_alloc_mark]
    refine ⟨?_, ?_⟩
    · simp [bytesRow, Array.getElem?_append, hj']
    · have hle : j < (bytesRow s (grownCap w s.size 0 e)).size := by simp [bytesRow]; have : s.size = s.data.size := rfl; omega
      simp; omega

theorem add_j (b j : Nat) : (⟨b, 0, none⟩ : Addr).add j = ⟨b, j, none⟩ := by
  unfold Addr.add
  by_cases h : j = 0
  · subst h; rfl
  · simp [h]

theorem conv_back {P : Program} (w : World) (src dst e : TypeId) (b n cap : Nat) (l : List UInt8) (hs : P.underlying src = some (.slice e)) (he : P.underlying e = some (.int .u8)) (hd : P.underlying dst = some .string)
    (hn : n = l.length) (hc : BRow w b l) : (convert src dst (.slice (some ⟨b, 0, none⟩) n cap)).run P w = .ok (.string (S l)) w := by
  subst hn
  exact run_convert_bytes_back w src dst e ⟨b, 0, none⟩ cap l hs he hd (fun j hj => by have := (hc j hj).1; rw [add_j]; exact this)

/-- Bytes as cells. -/
def bv (l : List UInt8) : List Value := l.map fun b => .int .u8 (b.toNat : Int)
theorem bv_app (l k : List UInt8) : bv (l ++ k) = bv l ++ bv k := by simp [bv]
theorem bv_len (l : List UInt8) : (bv l).length = l.length := by simp [bv]
theorem bv_one (l : List UInt8) : ∀ u ∈ bv l, u.oneCell' = true := by
  intro u hu
  simp only [bv, List.mem_map] at hu
  obtain ⟨b, _, rfl⟩ := hu
  rfl

theorem own_back {P : Program} (w : World) (base : Nat) (src dst e : TypeId) (g n cap : Nat) (l : List UInt8) (hs : P.underlying src = some (.slice e)) (he : P.underlying e = some (.int .u8)) (hd : P.underlying dst = some .string)
    (h : w.ownsRow base e 1 (.slice (some ⟨g, 0, none⟩) n cap) n (bv l)) : (convert src dst (.slice (some ⟨g, 0, none⟩) n cap)).run P w = .ok (.string (S l)) w := by
  have hn : n = l.length := by have := h.1; rw [bv_len] at this; omega
  subst hn
  refine run_convert_bytes_back w src dst e ⟨g, 0, none⟩ cap l hs he hd (fun j hj => ?_)
  have := h.cellAt j (by omega)
  rw [add_j, this]
  simp [bv, hj]

theorem own_back_any {P : Program} (w : World) (base : Nat) (src dst e : TypeId) (v : Value) (n : Nat) (l : List UInt8) (hs : P.underlying src = some (.slice e)) (he : P.underlying e = some (.int .u8)) (hd : P.underlying dst = some .string)
    (h : w.ownsRow base e 1 v n (bv l)) : (convert src dst v).run P w = .ok (.string (S l)) w := by
  rcases h.2 with ⟨rfl, rfl⟩ | ⟨g, cap, cur, rfl, _⟩
  · have hl : l = [] := by have := h.1; rw [bv_len] at this; exact List.eq_nil_of_length_eq_zero (by omega)
    subst hl
    rw [run_convert_bytes_string w src dst e none 0 0 hs he hd]
    rfl
  · exact own_back w base src dst e g n cap l hs he hd h
end Go.Proofs.YtkecaeceeldcaaaGreatDoor
